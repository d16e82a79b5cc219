/- The document's own: fits. The document's own: fits, of nodes that have nodes. The document's own: fits, of maps. -/
import Derived.Test.YtomociaidccfmaaGreatDoorNc
import Derived.Test.YtomociaidccfmaaGreatDoorZG
import Derived.BigQuiet

namespace Go.Proofs.YtomociaidccfmaaGreatDoor
open Go.RowKit

set_option maxRecDepth 100000 in
set_option maxHeartbeats 1000000 in
theorem rFits_1_1 (b neg : Bool) (dig : ByteArray) (exp : Int) (u : Nat) (wd : Int) (s : ByteArray) (A : Option Addr) (c : Nat) (w : World) : Calls Tryz.prog 21 #[.agg ((⟨1, b, neg, dig, exp, u, wd, s⟩ : Hd).cells (.slice A 0 c)), .int .i64 1] w (BolP true w) := by
  simp only [Hd.cells]
  go_enter Tryz.func21, Tryz.ntmps21
  go_wp2_with fail
  refine wp_loop_rounds 1 ?_
  rw [rounds_succ]
  go_wp2_with fail
  go_ret
  exact ⟨rfl, below_a (Below.refl _ _) _⟩
set_option maxRecDepth 100000 in
set_option maxHeartbeats 1000000 in
theorem rFits_1_2 (b neg : Bool) (dig : ByteArray) (exp : Int) (u : Nat) (wd : Int) (s : ByteArray) (A : Option Addr) (c : Nat) (w : World) : Calls Tryz.prog 21 #[.agg ((⟨1, b, neg, dig, exp, u, wd, s⟩ : Hd).cells (.slice A 0 c)), .int .i64 2] w (BolP true w) := by
  simp only [Hd.cells]
  go_enter Tryz.func21, Tryz.ntmps21
  go_wp2_with fail
  refine wp_loop_rounds 1 ?_
  rw [rounds_succ]
  go_wp2_with fail
  go_ret
  exact ⟨rfl, below_a (Below.refl _ _) _⟩
set_option maxRecDepth 100000 in
set_option maxHeartbeats 1000000 in
theorem rFits_1_3 (b neg : Bool) (dig : ByteArray) (exp : Int) (u : Nat) (wd : Int) (s : ByteArray) (A : Option Addr) (c : Nat) (w : World) : Calls Tryz.prog 21 #[.agg ((⟨1, b, neg, dig, exp, u, wd, s⟩ : Hd).cells (.slice A 0 c)), .int .i64 3] w (BolP true w) := by
  simp only [Hd.cells]
  go_enter Tryz.func21, Tryz.ntmps21
  go_wp2_with fail
  refine wp_loop_rounds 1 ?_
  rw [rounds_succ]
  go_wp2_with fail
  go_ret
  exact ⟨rfl, below_a (Below.refl _ _) _⟩
set_option maxRecDepth 100000 in
set_option maxHeartbeats 1000000 in
theorem rFits_1_4 (b neg : Bool) (dig : ByteArray) (exp : Int) (u : Nat) (wd : Int) (s : ByteArray) (A : Option Addr) (c : Nat) (w : World) : Calls Tryz.prog 21 #[.agg ((⟨1, b, neg, dig, exp, u, wd, s⟩ : Hd).cells (.slice A 0 c)), .int .i64 4] w (BolP true w) := by
  simp only [Hd.cells]
  go_enter Tryz.func21, Tryz.ntmps21
  go_wp2_with fail
  refine wp_loop_rounds 1 ?_
  rw [rounds_succ]
  go_wp2_with fail
  go_ret
  exact ⟨rfl, below_a (Below.refl _ _) _⟩
set_option maxRecDepth 100000 in
set_option maxHeartbeats 1000000 in
theorem rFits_1_lo (b neg : Bool) (dig : ByteArray) (exp : Int) (u : Nat) (wd : Int) (s : ByteArray) (n : Int) (A : Option Addr) (c : Nat) (w : World) (g1 : ¬ (1 : Int) ≤ n) : Calls Tryz.prog 21 #[.agg ((⟨1, b, neg, dig, exp, u, wd, s⟩ : Hd).cells (.slice A 0 c)), .int .i64 n] w (BolP false w) := by
  simp only [Hd.cells]
  go_enter Tryz.func21, Tryz.ntmps21
  go_wp2_with fail
  refine wp_loop_rounds 1 ?_
  rw [rounds_succ]
  go_wp2_with fail
  go_ret
  exact ⟨rfl, below_a (Below.refl _ _) _⟩
set_option maxRecDepth 100000 in
set_option maxHeartbeats 1000000 in
theorem rFits_1_hi (b neg : Bool) (dig : ByteArray) (exp : Int) (u : Nat) (wd : Int) (s : ByteArray) (n : Int) (A : Option Addr) (c : Nat) (w : World) (g1 : (1 : Int) ≤ n) (g2 : ¬ n ≤ 4) : Calls Tryz.prog 21 #[.agg ((⟨1, b, neg, dig, exp, u, wd, s⟩ : Hd).cells (.slice A 0 c)), .int .i64 n] w (BolP false w) := by
  simp only [Hd.cells]
  go_enter Tryz.func21, Tryz.ntmps21
  go_wp2_with fail
  refine wp_loop_rounds 1 ?_
  rw [rounds_succ]
  go_wp2_with fail
  go_ret
  exact ⟨rfl, below_a (Below.refl _ _) _⟩
set_option maxRecDepth 100000 in
set_option maxHeartbeats 1000000 in
theorem rFits_2_1 (b neg : Bool) (dig : ByteArray) (exp : Int) (u : Nat) (wd : Int) (s : ByteArray) (A : Option Addr) (c : Nat) (w : World) : Calls Tryz.prog 21 #[.agg ((⟨2, b, neg, dig, exp, u, wd, s⟩ : Hd).cells (.slice A 0 c)), .int .i64 1] w (BolP true w) := by
  simp only [Hd.cells]
  go_enter Tryz.func21, Tryz.ntmps21
  go_wp2_with fail
  refine wp_loop_rounds 1 ?_
  rw [rounds_succ]
  go_wp2_with fail
  go_ret
  exact ⟨rfl, below_a (Below.refl _ _) _⟩
set_option maxRecDepth 100000 in
set_option maxHeartbeats 1000000 in
theorem rFits_2_2 (b neg : Bool) (dig : ByteArray) (exp : Int) (u : Nat) (wd : Int) (s : ByteArray) (A : Option Addr) (c : Nat) (w : World) : Calls Tryz.prog 21 #[.agg ((⟨2, b, neg, dig, exp, u, wd, s⟩ : Hd).cells (.slice A 0 c)), .int .i64 2] w (BolP true w) := by
  simp only [Hd.cells]
  go_enter Tryz.func21, Tryz.ntmps21
  go_wp2_with fail
  refine wp_loop_rounds 1 ?_
  rw [rounds_succ]
  go_wp2_with fail
  go_ret
  exact ⟨rfl, below_a (Below.refl _ _) _⟩
set_option maxRecDepth 100000 in
set_option maxHeartbeats 1000000 in
theorem rFits_2_3 (b neg : Bool) (dig : ByteArray) (exp : Int) (u : Nat) (wd : Int) (s : ByteArray) (A : Option Addr) (c : Nat) (w : World) : Calls Tryz.prog 21 #[.agg ((⟨2, b, neg, dig, exp, u, wd, s⟩ : Hd).cells (.slice A 0 c)), .int .i64 3] w (BolP true w) := by
  simp only [Hd.cells]
  go_enter Tryz.func21, Tryz.ntmps21
  go_wp2_with fail
  refine wp_loop_rounds 1 ?_
  rw [rounds_succ]
  go_wp2_with fail
  go_ret
  exact ⟨rfl, below_a (Below.refl _ _) _⟩
set_option maxRecDepth 100000 in
set_option maxHeartbeats 1000000 in
theorem rFits_2_4 (b neg : Bool) (dig : ByteArray) (exp : Int) (u : Nat) (wd : Int) (s : ByteArray) (A : Option Addr) (c : Nat) (w : World) : Calls Tryz.prog 21 #[.agg ((⟨2, b, neg, dig, exp, u, wd, s⟩ : Hd).cells (.slice A 0 c)), .int .i64 4] w (BolP true w) := by
  simp only [Hd.cells]
  go_enter Tryz.func21, Tryz.ntmps21
  go_wp2_with fail
  refine wp_loop_rounds 1 ?_
  rw [rounds_succ]
  go_wp2_with fail
  go_ret
  exact ⟨rfl, below_a (Below.refl _ _) _⟩
set_option maxRecDepth 100000 in
set_option maxHeartbeats 1000000 in
theorem rFits_2_lo (b neg : Bool) (dig : ByteArray) (exp : Int) (u : Nat) (wd : Int) (s : ByteArray) (n : Int) (A : Option Addr) (c : Nat) (w : World) (g1 : ¬ (1 : Int) ≤ n) : Calls Tryz.prog 21 #[.agg ((⟨2, b, neg, dig, exp, u, wd, s⟩ : Hd).cells (.slice A 0 c)), .int .i64 n] w (BolP false w) := by
  simp only [Hd.cells]
  go_enter Tryz.func21, Tryz.ntmps21
  go_wp2_with fail
  refine wp_loop_rounds 1 ?_
  rw [rounds_succ]
  go_wp2_with fail
  go_ret
  exact ⟨rfl, below_a (Below.refl _ _) _⟩
set_option maxRecDepth 100000 in
set_option maxHeartbeats 1000000 in
theorem rFits_2_hi (b neg : Bool) (dig : ByteArray) (exp : Int) (u : Nat) (wd : Int) (s : ByteArray) (n : Int) (A : Option Addr) (c : Nat) (w : World) (g1 : (1 : Int) ≤ n) (g2 : ¬ n ≤ 4) : Calls Tryz.prog 21 #[.agg ((⟨2, b, neg, dig, exp, u, wd, s⟩ : Hd).cells (.slice A 0 c)), .int .i64 n] w (BolP false w) := by
  simp only [Hd.cells]
  go_enter Tryz.func21, Tryz.ntmps21
  go_wp2_with fail
  refine wp_loop_rounds 1 ?_
  rw [rounds_succ]
  go_wp2_with fail
  go_ret
  exact ⟨rfl, below_a (Below.refl _ _) _⟩
set_option maxRecDepth 100000 in
set_option maxHeartbeats 1000000 in
theorem rFits_5_1 (b neg : Bool) (dig : ByteArray) (exp : Int) (u : Nat) (wd : Int) (s : ByteArray) (A : Option Addr) (c : Nat) (w : World) : Calls Tryz.prog 21 #[.agg ((⟨5, b, neg, dig, exp, u, wd, s⟩ : Hd).cells (.slice A 0 c)), .int .i64 1] w (BolP true w) := by
  simp only [Hd.cells]
  go_enter Tryz.func21, Tryz.ntmps21
  go_wp2_with fail
  refine wp_loop_rounds 1 ?_
  rw [rounds_succ]
  go_wp2_with fail
  go_ret
  exact ⟨rfl, below_a (Below.refl _ _) _⟩
set_option maxRecDepth 100000 in
set_option maxHeartbeats 1000000 in
theorem rFits_5_2 (b neg : Bool) (dig : ByteArray) (exp : Int) (u : Nat) (wd : Int) (s : ByteArray) (A : Option Addr) (c : Nat) (w : World) : Calls Tryz.prog 21 #[.agg ((⟨5, b, neg, dig, exp, u, wd, s⟩ : Hd).cells (.slice A 0 c)), .int .i64 2] w (BolP true w) := by
  simp only [Hd.cells]
  go_enter Tryz.func21, Tryz.ntmps21
  go_wp2_with fail
  refine wp_loop_rounds 1 ?_
  rw [rounds_succ]
  go_wp2_with fail
  go_ret
  exact ⟨rfl, below_a (Below.refl _ _) _⟩
set_option maxRecDepth 100000 in
set_option maxHeartbeats 1000000 in
theorem rFits_5_3 (b neg : Bool) (dig : ByteArray) (exp : Int) (u : Nat) (wd : Int) (s : ByteArray) (A : Option Addr) (c : Nat) (w : World) : Calls Tryz.prog 21 #[.agg ((⟨5, b, neg, dig, exp, u, wd, s⟩ : Hd).cells (.slice A 0 c)), .int .i64 3] w (BolP true w) := by
  simp only [Hd.cells]
  go_enter Tryz.func21, Tryz.ntmps21
  go_wp2_with fail
  refine wp_loop_rounds 1 ?_
  rw [rounds_succ]
  go_wp2_with fail
  go_ret
  exact ⟨rfl, below_a (Below.refl _ _) _⟩
set_option maxRecDepth 100000 in
set_option maxHeartbeats 1000000 in
theorem rFits_5_4 (b neg : Bool) (dig : ByteArray) (exp : Int) (u : Nat) (wd : Int) (s : ByteArray) (A : Option Addr) (c : Nat) (w : World) : Calls Tryz.prog 21 #[.agg ((⟨5, b, neg, dig, exp, u, wd, s⟩ : Hd).cells (.slice A 0 c)), .int .i64 4] w (BolP true w) := by
  simp only [Hd.cells]
  go_enter Tryz.func21, Tryz.ntmps21
  go_wp2_with fail
  refine wp_loop_rounds 1 ?_
  rw [rounds_succ]
  go_wp2_with fail
  go_ret
  exact ⟨rfl, below_a (Below.refl _ _) _⟩
set_option maxRecDepth 100000 in
set_option maxHeartbeats 1000000 in
theorem rFits_5_lo (b neg : Bool) (dig : ByteArray) (exp : Int) (u : Nat) (wd : Int) (s : ByteArray) (n : Int) (A : Option Addr) (c : Nat) (w : World) (g1 : ¬ (1 : Int) ≤ n) : Calls Tryz.prog 21 #[.agg ((⟨5, b, neg, dig, exp, u, wd, s⟩ : Hd).cells (.slice A 0 c)), .int .i64 n] w (BolP false w) := by
  simp only [Hd.cells]
  go_enter Tryz.func21, Tryz.ntmps21
  go_wp2_with fail
  refine wp_loop_rounds 1 ?_
  rw [rounds_succ]
  go_wp2_with fail
  go_ret
  exact ⟨rfl, below_a (Below.refl _ _) _⟩
set_option maxRecDepth 100000 in
set_option maxHeartbeats 1000000 in
theorem rFits_5_hi (b neg : Bool) (dig : ByteArray) (exp : Int) (u : Nat) (wd : Int) (s : ByteArray) (n : Int) (A : Option Addr) (c : Nat) (w : World) (g1 : (1 : Int) ≤ n) (g2 : ¬ n ≤ 4) : Calls Tryz.prog 21 #[.agg ((⟨5, b, neg, dig, exp, u, wd, s⟩ : Hd).cells (.slice A 0 c)), .int .i64 n] w (BolP false w) := by
  simp only [Hd.cells]
  go_enter Tryz.func21, Tryz.ntmps21
  go_wp2_with fail
  refine wp_loop_rounds 1 ?_
  rw [rounds_succ]
  go_wp2_with fail
  go_ret
  exact ⟨rfl, below_a (Below.refl _ _) _⟩
set_option maxRecDepth 100000 in
set_option maxHeartbeats 1000000 in
theorem rFits_6_1 (b neg : Bool) (dig : ByteArray) (exp : Int) (u : Nat) (wd : Int) (s : ByteArray) (A : Option Addr) (c : Nat) (w : World) : Calls Tryz.prog 21 #[.agg ((⟨6, b, neg, dig, exp, u, wd, s⟩ : Hd).cells (.slice A 0 c)), .int .i64 1] w (BolP false w) := by
  simp only [Hd.cells]
  go_enter Tryz.func21, Tryz.ntmps21
  go_wp2_with fail
  refine wp_loop_rounds 1 ?_
  rw [rounds_succ]
  go_wp2_with fail
  go_ret
  exact ⟨rfl, below_a (Below.refl _ _) _⟩
set_option maxRecDepth 100000 in
set_option maxHeartbeats 1000000 in
theorem rFits_6_2 (b neg : Bool) (dig : ByteArray) (exp : Int) (u : Nat) (wd : Int) (s : ByteArray) (A : Option Addr) (c : Nat) (w : World) : Calls Tryz.prog 21 #[.agg ((⟨6, b, neg, dig, exp, u, wd, s⟩ : Hd).cells (.slice A 0 c)), .int .i64 2] w (BolP true w) := by
  simp only [Hd.cells]
  go_enter Tryz.func21, Tryz.ntmps21
  go_wp2_with fail
  refine wp_loop_rounds 1 ?_
  rw [rounds_succ]
  go_wp2_with fail
  go_ret
  exact ⟨rfl, below_a (Below.refl _ _) _⟩
set_option maxRecDepth 100000 in
set_option maxHeartbeats 1000000 in
theorem rFits_6_3 (b neg : Bool) (dig : ByteArray) (exp : Int) (u : Nat) (wd : Int) (s : ByteArray) (A : Option Addr) (c : Nat) (w : World) : Calls Tryz.prog 21 #[.agg ((⟨6, b, neg, dig, exp, u, wd, s⟩ : Hd).cells (.slice A 0 c)), .int .i64 3] w (BolP true w) := by
  simp only [Hd.cells]
  go_enter Tryz.func21, Tryz.ntmps21
  go_wp2_with fail
  refine wp_loop_rounds 1 ?_
  rw [rounds_succ]
  go_wp2_with fail
  go_ret
  exact ⟨rfl, below_a (Below.refl _ _) _⟩
set_option maxRecDepth 100000 in
set_option maxHeartbeats 1000000 in
theorem rFits_6_4 (b neg : Bool) (dig : ByteArray) (exp : Int) (u : Nat) (wd : Int) (s : ByteArray) (A : Option Addr) (c : Nat) (w : World) : Calls Tryz.prog 21 #[.agg ((⟨6, b, neg, dig, exp, u, wd, s⟩ : Hd).cells (.slice A 0 c)), .int .i64 4] w (BolP true w) := by
  simp only [Hd.cells]
  go_enter Tryz.func21, Tryz.ntmps21
  go_wp2_with fail
  refine wp_loop_rounds 1 ?_
  rw [rounds_succ]
  go_wp2_with fail
  go_ret
  exact ⟨rfl, below_a (Below.refl _ _) _⟩
set_option maxRecDepth 100000 in
set_option maxHeartbeats 1000000 in
theorem rFits_6_lo (b neg : Bool) (dig : ByteArray) (exp : Int) (u : Nat) (wd : Int) (s : ByteArray) (n : Int) (A : Option Addr) (c : Nat) (w : World) (g1 : ¬ (1 : Int) ≤ n) : Calls Tryz.prog 21 #[.agg ((⟨6, b, neg, dig, exp, u, wd, s⟩ : Hd).cells (.slice A 0 c)), .int .i64 n] w (BolP false w) := by
  simp only [Hd.cells]
  go_enter Tryz.func21, Tryz.ntmps21
  go_wp2_with fail
  refine wp_loop_rounds 1 ?_
  rw [rounds_succ]
  go_wp2_with fail
  go_ret
  exact ⟨rfl, below_a (Below.refl _ _) _⟩
set_option maxRecDepth 100000 in
set_option maxHeartbeats 1000000 in
theorem rFits_6_hi (b neg : Bool) (dig : ByteArray) (exp : Int) (u : Nat) (wd : Int) (s : ByteArray) (n : Int) (A : Option Addr) (c : Nat) (w : World) (g1 : (1 : Int) ≤ n) (g2 : ¬ n ≤ 4) : Calls Tryz.prog 21 #[.agg ((⟨6, b, neg, dig, exp, u, wd, s⟩ : Hd).cells (.slice A 0 c)), .int .i64 n] w (BolP false w) := by
  simp only [Hd.cells]
  go_enter Tryz.func21, Tryz.ntmps21
  go_wp2_with fail
  refine wp_loop_rounds 1 ?_
  rw [rounds_succ]
  go_wp2_with fail
  go_ret
  exact ⟨rfl, below_a (Below.refl _ _) _⟩
set_option maxRecDepth 100000 in
set_option maxHeartbeats 1000000 in
theorem rFits_10_1 (b neg : Bool) (dig : ByteArray) (exp : Int) (u : Nat) (wd : Int) (s : ByteArray) (A : Option Addr) (c : Nat) (w : World) : Calls Tryz.prog 21 #[.agg ((⟨10, b, neg, dig, exp, u, wd, s⟩ : Hd).cells (.slice A 0 c)), .int .i64 1] w (BolP false w) := by
  simp only [Hd.cells]
  go_enter Tryz.func21, Tryz.ntmps21
  go_wp2_with fail
  refine wp_loop_rounds 1 ?_
  rw [rounds_succ]
  go_wp2_with fail
  go_ret
  exact ⟨rfl, below_a (Below.refl _ _) _⟩
set_option maxRecDepth 100000 in
set_option maxHeartbeats 1000000 in
theorem rFits_10_2 (b neg : Bool) (dig : ByteArray) (exp : Int) (u : Nat) (wd : Int) (s : ByteArray) (A : Option Addr) (c : Nat) (w : World) : Calls Tryz.prog 21 #[.agg ((⟨10, b, neg, dig, exp, u, wd, s⟩ : Hd).cells (.slice A 0 c)), .int .i64 2] w (BolP true w) := by
  simp only [Hd.cells]
  go_enter Tryz.func21, Tryz.ntmps21
  go_wp2_with fail
  refine wp_loop_rounds 1 ?_
  rw [rounds_succ]
  go_wp2_with fail
  go_ret
  exact ⟨rfl, below_a (Below.refl _ _) _⟩
set_option maxRecDepth 100000 in
set_option maxHeartbeats 1000000 in
theorem rFits_10_3 (b neg : Bool) (dig : ByteArray) (exp : Int) (u : Nat) (wd : Int) (s : ByteArray) (A : Option Addr) (c : Nat) (w : World) : Calls Tryz.prog 21 #[.agg ((⟨10, b, neg, dig, exp, u, wd, s⟩ : Hd).cells (.slice A 0 c)), .int .i64 3] w (BolP true w) := by
  simp only [Hd.cells]
  go_enter Tryz.func21, Tryz.ntmps21
  go_wp2_with fail
  refine wp_loop_rounds 1 ?_
  rw [rounds_succ]
  go_wp2_with fail
  go_ret
  exact ⟨rfl, below_a (Below.refl _ _) _⟩
set_option maxRecDepth 100000 in
set_option maxHeartbeats 1000000 in
theorem rFits_10_4 (b neg : Bool) (dig : ByteArray) (exp : Int) (u : Nat) (wd : Int) (s : ByteArray) (A : Option Addr) (c : Nat) (w : World) : Calls Tryz.prog 21 #[.agg ((⟨10, b, neg, dig, exp, u, wd, s⟩ : Hd).cells (.slice A 0 c)), .int .i64 4] w (BolP false w) := by
  simp only [Hd.cells]
  go_enter Tryz.func21, Tryz.ntmps21
  go_wp2_with fail
  refine wp_loop_rounds 1 ?_
  rw [rounds_succ]
  go_wp2_with fail
  go_ret
  exact ⟨rfl, below_a (Below.refl _ _) _⟩
set_option maxRecDepth 100000 in
set_option maxHeartbeats 1000000 in
theorem rFits_10_lo (b neg : Bool) (dig : ByteArray) (exp : Int) (u : Nat) (wd : Int) (s : ByteArray) (n : Int) (A : Option Addr) (c : Nat) (w : World) (g1 : ¬ (1 : Int) ≤ n) : Calls Tryz.prog 21 #[.agg ((⟨10, b, neg, dig, exp, u, wd, s⟩ : Hd).cells (.slice A 0 c)), .int .i64 n] w (BolP false w) := by
  simp only [Hd.cells]
  go_enter Tryz.func21, Tryz.ntmps21
  go_wp2_with fail
  refine wp_loop_rounds 1 ?_
  rw [rounds_succ]
  go_wp2_with fail
  go_ret
  exact ⟨rfl, below_a (Below.refl _ _) _⟩
set_option maxRecDepth 100000 in
set_option maxHeartbeats 1000000 in
theorem rFits_10_hi (b neg : Bool) (dig : ByteArray) (exp : Int) (u : Nat) (wd : Int) (s : ByteArray) (n : Int) (A : Option Addr) (c : Nat) (w : World) (g1 : (1 : Int) ≤ n) (g2 : ¬ n ≤ 4) : Calls Tryz.prog 21 #[.agg ((⟨10, b, neg, dig, exp, u, wd, s⟩ : Hd).cells (.slice A 0 c)), .int .i64 n] w (BolP false w) := by
  simp only [Hd.cells]
  go_enter Tryz.func21, Tryz.ntmps21
  go_wp2_with fail
  refine wp_loop_rounds 1 ?_
  rw [rounds_succ]
  go_wp2_with fail
  go_ret
  exact ⟨rfl, below_a (Below.refl _ _) _⟩
set_option maxRecDepth 100000 in
set_option maxHeartbeats 1000000 in
theorem rFits_11_1 (b neg : Bool) (dig : ByteArray) (exp : Int) (u : Nat) (wd : Int) (s : ByteArray) (A : Option Addr) (c : Nat) (w : World) : Calls Tryz.prog 21 #[.agg ((⟨11, b, neg, dig, exp, u, wd, s⟩ : Hd).cells (.slice A 0 c)), .int .i64 1] w (BolP false w) := by
  simp only [Hd.cells]
  go_enter Tryz.func21, Tryz.ntmps21
  go_wp2_with fail
  refine wp_loop_rounds 1 ?_
  rw [rounds_succ]
  go_wp2_with fail
  go_ret
  exact ⟨rfl, below_a (Below.refl _ _) _⟩
set_option maxRecDepth 100000 in
set_option maxHeartbeats 1000000 in
theorem rFits_11_2 (b neg : Bool) (dig : ByteArray) (exp : Int) (u : Nat) (wd : Int) (s : ByteArray) (A : Option Addr) (c : Nat) (w : World) : Calls Tryz.prog 21 #[.agg ((⟨11, b, neg, dig, exp, u, wd, s⟩ : Hd).cells (.slice A 0 c)), .int .i64 2] w (BolP false w) := by
  simp only [Hd.cells]
  go_enter Tryz.func21, Tryz.ntmps21
  go_wp2_with fail
  refine wp_loop_rounds 1 ?_
  rw [rounds_succ]
  go_wp2_with fail
  go_ret
  exact ⟨rfl, below_a (Below.refl _ _) _⟩
set_option maxRecDepth 100000 in
set_option maxHeartbeats 1000000 in
theorem rFits_11_3 (b neg : Bool) (dig : ByteArray) (exp : Int) (u : Nat) (wd : Int) (s : ByteArray) (A : Option Addr) (c : Nat) (w : World) : Calls Tryz.prog 21 #[.agg ((⟨11, b, neg, dig, exp, u, wd, s⟩ : Hd).cells (.slice A 0 c)), .int .i64 3] w (BolP false w) := by
  simp only [Hd.cells]
  go_enter Tryz.func21, Tryz.ntmps21
  go_wp2_with fail
  refine wp_loop_rounds 1 ?_
  rw [rounds_succ]
  go_wp2_with fail
  go_ret
  exact ⟨rfl, below_a (Below.refl _ _) _⟩
set_option maxRecDepth 100000 in
set_option maxHeartbeats 1000000 in
theorem rFits_11_4 (b neg : Bool) (dig : ByteArray) (exp : Int) (u : Nat) (wd : Int) (s : ByteArray) (A : Option Addr) (c : Nat) (w : World) : Calls Tryz.prog 21 #[.agg ((⟨11, b, neg, dig, exp, u, wd, s⟩ : Hd).cells (.slice A 0 c)), .int .i64 4] w (BolP true w) := by
  simp only [Hd.cells]
  go_enter Tryz.func21, Tryz.ntmps21
  go_wp2_with fail
  refine wp_loop_rounds 1 ?_
  rw [rounds_succ]
  go_wp2_with fail
  go_ret
  exact ⟨rfl, below_a (Below.refl _ _) _⟩
set_option maxRecDepth 100000 in
set_option maxHeartbeats 1000000 in
theorem rFits_11_lo (b neg : Bool) (dig : ByteArray) (exp : Int) (u : Nat) (wd : Int) (s : ByteArray) (n : Int) (A : Option Addr) (c : Nat) (w : World) (g1 : ¬ (1 : Int) ≤ n) : Calls Tryz.prog 21 #[.agg ((⟨11, b, neg, dig, exp, u, wd, s⟩ : Hd).cells (.slice A 0 c)), .int .i64 n] w (BolP false w) := by
  simp only [Hd.cells]
  go_enter Tryz.func21, Tryz.ntmps21
  go_wp2_with fail
  refine wp_loop_rounds 1 ?_
  rw [rounds_succ]
  go_wp2_with fail
  go_ret
  exact ⟨rfl, below_a (Below.refl _ _) _⟩
set_option maxRecDepth 100000 in
set_option maxHeartbeats 1000000 in
theorem rFits_11_hi (b neg : Bool) (dig : ByteArray) (exp : Int) (u : Nat) (wd : Int) (s : ByteArray) (n : Int) (A : Option Addr) (c : Nat) (w : World) (g1 : (1 : Int) ≤ n) (g2 : ¬ n ≤ 4) : Calls Tryz.prog 21 #[.agg ((⟨11, b, neg, dig, exp, u, wd, s⟩ : Hd).cells (.slice A 0 c)), .int .i64 n] w (BolP false w) := by
  simp only [Hd.cells]
  go_enter Tryz.func21, Tryz.ntmps21
  go_wp2_with fail
  refine wp_loop_rounds 1 ?_
  rw [rounds_succ]
  go_wp2_with fail
  go_ret
  exact ⟨rfl, below_a (Below.refl _ _) _⟩
set_option maxRecDepth 100000 in
set_option maxHeartbeats 1000000 in
theorem rFits_3_1 (b neg : Bool) (dig : ByteArray) (exp : Int) (u : Nat) (wd : Int) (s : ByteArray) (A : Option Addr) (c : Nat) (w : World) (R : Option (Bool × Nat)) (hTo : ∀ W, Calls Tryz.prog 38 #[.agg #[.bool neg, .string dig, .int .i64 exp]] W (ToP R W)) : Calls Tryz.prog 21 #[.agg ((⟨3, b, neg, dig, exp, u, wd, s⟩ : Hd).cells (.slice A 0 c)), .int .i64 1] w (BolP true w) := by
  have HTo := Lib.hid hTo
  clear hTo
  have HX := Lib.hid (Nx.new w ⟨3, b, neg, dig, exp, u, wd, s⟩ (.slice A 0 c))
  simp only [Hd.cells]
  go_enter Tryz.func21, Tryz.ntmps21
  go_wp2_with fail
  refine (HTo.out _).mono ?_
  rintro o w1 ⟨rfl, hb1⟩
  replace HX := Lib.hid (HX.out.below hb1)
  have HB := Lib.hid (below_nx (below_a (Below.refl _ _) _) hb1)
  clear hb1 HTo
  obtain ⟨y0, y1, y2, y3, y4, y5, y6, y7, y8⟩ := HX.out.nine
  go_wp2_with fail
  refine wp_loop_rounds 1 ?_
  rw [rounds_succ]
  go_wp2_with fail
  go_ret
  exact ⟨rfl, HB.out⟩
set_option maxRecDepth 100000 in
set_option maxHeartbeats 1000000 in
theorem rFits_3_2 (b neg : Bool) (dig : ByteArray) (exp : Int) (u : Nat) (wd : Int) (s : ByteArray) (A : Option Addr) (c : Nat) (w : World) (R : Option (Bool × Nat)) (hTo : ∀ W, Calls Tryz.prog 38 #[.agg #[.bool neg, .string dig, .int .i64 exp]] W (ToP R W)) : Calls Tryz.prog 21 #[.agg ((⟨3, b, neg, dig, exp, u, wd, s⟩ : Hd).cells (.slice A 0 c)), .int .i64 2] w (BolP R.isSome w) := by
  have HTo := Lib.hid hTo
  clear hTo
  have HX := Lib.hid (Nx.new w ⟨3, b, neg, dig, exp, u, wd, s⟩ (.slice A 0 c))
  simp only [Hd.cells]
  go_enter Tryz.func21, Tryz.ntmps21
  go_wp2_with fail
  refine (HTo.out _).mono ?_
  rintro o w1 ⟨rfl, hb1⟩
  replace HX := Lib.hid (HX.out.below hb1)
  have HB := Lib.hid (below_nx (below_a (Below.refl _ _) _) hb1)
  clear hb1 HTo
  obtain ⟨y0, y1, y2, y3, y4, y5, y6, y7, y8⟩ := HX.out.nine
  obtain ⟨x, hx⟩ : ∃ x, x = R.isSome := ⟨_, rfl⟩
  rw [← hx]
  have HV := Lib.hid hx.symm
  clear hx
  cases x with
  | true =>
    go_wp2_with fail
    refine wp_loop_rounds 1 ?_
    rw [rounds_succ]
    go_wp2_with fail
    go_ret
    exact ⟨by first | rfl | (rw [HV.out]; rfl) | (rw [HV.out]; simp [*]; done), HB.out⟩
  | false =>
    go_wp2_with fail
    refine wp_loop_rounds 1 ?_
    rw [rounds_succ]
    go_wp2_with fail
    go_ret
    exact ⟨by first | rfl | (rw [HV.out]; rfl) | (rw [HV.out]; simp [*]; done), HB.out⟩
set_option maxRecDepth 100000 in
set_option maxHeartbeats 1000000 in
theorem rFits_3_3 (b neg : Bool) (dig : ByteArray) (exp : Int) (u : Nat) (wd : Int) (s : ByteArray) (A : Option Addr) (c : Nat) (w : World) (R : Option (Bool × Nat)) (hTo : ∀ W, Calls Tryz.prog 38 #[.agg #[.bool neg, .string dig, .int .i64 exp]] W (ToP R W)) : Calls Tryz.prog 21 #[.agg ((⟨3, b, neg, dig, exp, u, wd, s⟩ : Hd).cells (.slice A 0 c)), .int .i64 3] w (BolP R.isSome w) := by
  have HTo := Lib.hid hTo
  clear hTo
  have HX := Lib.hid (Nx.new w ⟨3, b, neg, dig, exp, u, wd, s⟩ (.slice A 0 c))
  simp only [Hd.cells]
  go_enter Tryz.func21, Tryz.ntmps21
  go_wp2_with fail
  refine (HTo.out _).mono ?_
  rintro o w1 ⟨rfl, hb1⟩
  replace HX := Lib.hid (HX.out.below hb1)
  have HB := Lib.hid (below_nx (below_a (Below.refl _ _) _) hb1)
  clear hb1 HTo
  obtain ⟨y0, y1, y2, y3, y4, y5, y6, y7, y8⟩ := HX.out.nine
  obtain ⟨x, hx⟩ : ∃ x, x = R.isSome := ⟨_, rfl⟩
  rw [← hx]
  have HV := Lib.hid hx.symm
  clear hx
  cases x with
  | true =>
    go_wp2_with fail
    refine wp_loop_rounds 1 ?_
    rw [rounds_succ]
    go_wp2_with fail
    go_ret
    exact ⟨by first | rfl | (rw [HV.out]; rfl) | (rw [HV.out]; simp [*]; done), HB.out⟩
  | false =>
    go_wp2_with fail
    refine wp_loop_rounds 1 ?_
    rw [rounds_succ]
    go_wp2_with fail
    go_ret
    exact ⟨by first | rfl | (rw [HV.out]; rfl) | (rw [HV.out]; simp [*]; done), HB.out⟩
set_option maxRecDepth 100000 in
set_option maxHeartbeats 1000000 in
theorem rFits_3_4 (b neg : Bool) (dig : ByteArray) (exp : Int) (u : Nat) (wd : Int) (s : ByteArray) (A : Option Addr) (c : Nat) (w : World) (R : Option (Bool × Nat)) (hTo : ∀ W, Calls Tryz.prog 38 #[.agg #[.bool neg, .string dig, .int .i64 exp]] W (ToP R W)) : Calls Tryz.prog 21 #[.agg ((⟨3, b, neg, dig, exp, u, wd, s⟩ : Hd).cells (.slice A 0 c)), .int .i64 4] w (BolP (R.isSome && (!tN R || decide (tK R ≤ 9223372036854775808))) w) := by
  have HTo := Lib.hid hTo
  clear hTo
  have HX := Lib.hid (Nx.new w ⟨3, b, neg, dig, exp, u, wd, s⟩ (.slice A 0 c))
  simp only [Hd.cells]
  go_enter Tryz.func21, Tryz.ntmps21
  go_wp2_with fail
  refine (HTo.out _).mono ?_
  rintro o w1 ⟨rfl, hb1⟩
  replace HX := Lib.hid (HX.out.below hb1)
  have HB := Lib.hid (below_nx (below_a (Below.refl _ _) _) hb1)
  clear hb1 HTo
  obtain ⟨y0, y1, y2, y3, y4, y5, y6, y7, y8⟩ := HX.out.nine
  obtain ⟨x, hx⟩ : ∃ x, x = R.isSome := ⟨_, rfl⟩
  obtain ⟨y, hy⟩ : ∃ y, y = tN R := ⟨_, rfl⟩
  obtain ⟨z, hz⟩ : ∃ z, z = tK R := ⟨_, rfl⟩
  have HV : Hid ((R.isSome && (!tN R || decide (tK R ≤ 9223372036854775808))) = (x && (!y || decide (z ≤ 9223372036854775808)))) := Lib.hid (by rw [hx, hy, hz])
  rw [← hx, ← hy, ← hz]
  clear hx hy hz
  cases x with
  | true =>
    cases y with
    | true =>
      by_cases g : z ≤ 9223372036854775808
      · have gi : (z : Int) ≤ 9223372036854775808 := by omega
        rw [decide_eq_true g] at HV
        go_wp2_with fail
        refine wp_loop_rounds 1 ?_
        rw [rounds_succ]
        go_wp2_with fail
        go_ret
        exact ⟨by first | rfl | (rw [HV.out]; rfl) | (rw [HV.out]; simp [*]; done), HB.out⟩
      · have gi : ¬ (z : Int) ≤ 9223372036854775808 := by omega
        rw [decide_eq_false g] at HV
        go_wp2_with fail
        refine wp_loop_rounds 1 ?_
        rw [rounds_succ]
        go_wp2_with fail
        go_ret
        exact ⟨by first | rfl | (rw [HV.out]; rfl) | (rw [HV.out]; simp [*]; done), HB.out⟩
    | false =>
      go_wp2_with fail
      refine wp_loop_rounds 1 ?_
      rw [rounds_succ]
      go_wp2_with fail
      go_ret
      exact ⟨by first | rfl | (rw [HV.out]; rfl) | (rw [HV.out]; simp [*]; done), HB.out⟩
  | false =>
    go_wp2_with fail
    refine wp_loop_rounds 1 ?_
    rw [rounds_succ]
    go_wp2_with fail
    go_ret
    exact ⟨by first | rfl | (rw [HV.out]; rfl) | (rw [HV.out]; simp [*]; done), HB.out⟩
set_option maxRecDepth 100000 in
set_option maxHeartbeats 1000000 in
theorem rFits_3_lo (b neg : Bool) (dig : ByteArray) (exp : Int) (u : Nat) (wd : Int) (s : ByteArray) (n : Int) (A : Option Addr) (c : Nat) (w : World) (g1 : ¬ (1 : Int) ≤ n) (R : Option (Bool × Nat)) (hTo : ∀ W, Calls Tryz.prog 38 #[.agg #[.bool neg, .string dig, .int .i64 exp]] W (ToP R W)) : Calls Tryz.prog 21 #[.agg ((⟨3, b, neg, dig, exp, u, wd, s⟩ : Hd).cells (.slice A 0 c)), .int .i64 n] w (BolP false w) := by
  have HTo := Lib.hid hTo
  clear hTo
  have HX := Lib.hid (Nx.new w ⟨3, b, neg, dig, exp, u, wd, s⟩ (.slice A 0 c))
  simp only [Hd.cells]
  go_enter Tryz.func21, Tryz.ntmps21
  go_wp2_with fail
  refine (HTo.out _).mono ?_
  rintro o w1 ⟨rfl, hb1⟩
  replace HX := Lib.hid (HX.out.below hb1)
  have HB := Lib.hid (below_nx (below_a (Below.refl _ _) _) hb1)
  clear hb1 HTo
  obtain ⟨y0, y1, y2, y3, y4, y5, y6, y7, y8⟩ := HX.out.nine
  go_wp2_with fail
  refine wp_loop_rounds 1 ?_
  rw [rounds_succ]
  go_wp2_with fail
  go_ret
  exact ⟨rfl, HB.out⟩
set_option maxRecDepth 100000 in
set_option maxHeartbeats 1000000 in
theorem rFits_3_hi (b neg : Bool) (dig : ByteArray) (exp : Int) (u : Nat) (wd : Int) (s : ByteArray) (n : Int) (A : Option Addr) (c : Nat) (w : World) (g1 : (1 : Int) ≤ n) (g2 : ¬ n ≤ 4) (R : Option (Bool × Nat)) (hTo : ∀ W, Calls Tryz.prog 38 #[.agg #[.bool neg, .string dig, .int .i64 exp]] W (ToP R W)) : Calls Tryz.prog 21 #[.agg ((⟨3, b, neg, dig, exp, u, wd, s⟩ : Hd).cells (.slice A 0 c)), .int .i64 n] w (BolP false w) := by
  have HTo := Lib.hid hTo
  clear hTo
  have HX := Lib.hid (Nx.new w ⟨3, b, neg, dig, exp, u, wd, s⟩ (.slice A 0 c))
  simp only [Hd.cells]
  go_enter Tryz.func21, Tryz.ntmps21
  go_wp2_with fail
  refine (HTo.out _).mono ?_
  rintro o w1 ⟨rfl, hb1⟩
  replace HX := Lib.hid (HX.out.below hb1)
  have HB := Lib.hid (below_nx (below_a (Below.refl _ _) _) hb1)
  clear hb1 HTo
  obtain ⟨y0, y1, y2, y3, y4, y5, y6, y7, y8⟩ := HX.out.nine
  go_wp2_with fail
  refine wp_loop_rounds 1 ?_
  rw [rounds_succ]
  go_wp2_with fail
  go_ret
  exact ⟨rfl, HB.out⟩
set_option maxRecDepth 100000 in
set_option maxHeartbeats 2000000 in
theorem rFits_4_1 (b neg : Bool) (dig : ByteArray) (exp : Int) (u : Nat) (wd : Int) (s : ByteArray) (A : Option Addr) (c : Nat) (w : World) (O : Option Nat) (hWi : ∀ W, Calls Tryz.prog 36 #[.int .u64 (u : Int), .int .i64 wd] W (WidP O W)) : Calls Tryz.prog 21 #[.agg ((⟨4, b, neg, dig, exp, u, wd, s⟩ : Hd).cells (.slice A 0 c)), .int .i64 1] w (BolP false w) := by
  have HWi := Lib.hid hWi
  clear hWi
  have HX := Lib.hid (Nx.new w ⟨4, b, neg, dig, exp, u, wd, s⟩ (.slice A 0 c))
  simp only [Hd.cells]
  go_enter Tryz.func21, Tryz.ntmps21
  go_wp2_with fail
  refine (HWi.out _).mono ?_
  rintro o w1 ⟨rfl, hb1⟩
  replace HX := Lib.hid (HX.out.below hb1)
  have HB := Lib.hid (below_nx (below_a (Below.refl _ _) _) hb1)
  clear hb1 HWi
  obtain ⟨x, hx⟩ : ∃ x : Nat, x = O.getD 0 := ⟨_, rfl⟩
  obtain ⟨z, hz⟩ : ∃ z : Int, z = (if O.isSome = true then 0 else 2) := ⟨_, rfl⟩
  rw [← hx, ← hz]
  clear hx hz
  have y6 := HX.out.nine.2.2.2.2.2.2.1
  go_wp2_with fail
  go_quiet (fail)
  have HB2 := Lib.hid (below_drewN HB.out nq)
  have c8 : (w1.drewN nq).cell? ⟨w.heap.size, 8, none⟩ = some (.slice A 0 c) := by rw [World.cell?_drewN]; exact HX.out.c8
  clear y6
  go_wp2_with fail
  refine wp_loop_rounds 1 ?_
  rw [rounds_succ]
  go_wp2_with fail
  go_ret
  exact ⟨by first | rfl | (show Ending.returned (Value.bool _) = Ending.returned (Value.bool _); simp [*]), HB2.out⟩
set_option maxRecDepth 100000 in
set_option maxHeartbeats 2000000 in
theorem rFits_4_2 (b neg : Bool) (dig : ByteArray) (exp : Int) (u : Nat) (wd : Int) (s : ByteArray) (A : Option Addr) (c : Nat) (w : World) (O : Option Nat) (hWi : ∀ W, Calls Tryz.prog 36 #[.int .u64 (u : Int), .int .i64 wd] W (WidP O W)) : Calls Tryz.prog 21 #[.agg ((⟨4, b, neg, dig, exp, u, wd, s⟩ : Hd).cells (.slice A 0 c)), .int .i64 2] w (BolP true w) := by
  have HWi := Lib.hid hWi
  clear hWi
  have HX := Lib.hid (Nx.new w ⟨4, b, neg, dig, exp, u, wd, s⟩ (.slice A 0 c))
  simp only [Hd.cells]
  go_enter Tryz.func21, Tryz.ntmps21
  go_wp2_with fail
  refine (HWi.out _).mono ?_
  rintro o w1 ⟨rfl, hb1⟩
  replace HX := Lib.hid (HX.out.below hb1)
  have HB := Lib.hid (below_nx (below_a (Below.refl _ _) _) hb1)
  clear hb1 HWi
  obtain ⟨x, hx⟩ : ∃ x : Nat, x = O.getD 0 := ⟨_, rfl⟩
  obtain ⟨z, hz⟩ : ∃ z : Int, z = (if O.isSome = true then 0 else 2) := ⟨_, rfl⟩
  rw [← hx, ← hz]
  clear hx hz
  have y6 := HX.out.nine.2.2.2.2.2.2.1
  go_wp2_with fail
  go_quiet (fail)
  have HB2 := Lib.hid (below_drewN HB.out nq)
  have c8 : (w1.drewN nq).cell? ⟨w.heap.size, 8, none⟩ = some (.slice A 0 c) := by rw [World.cell?_drewN]; exact HX.out.c8
  clear y6
  go_wp2_with fail
  refine wp_loop_rounds 1 ?_
  rw [rounds_succ]
  go_wp2_with fail
  go_ret
  exact ⟨by first | rfl | (show Ending.returned (Value.bool _) = Ending.returned (Value.bool _); simp [*]), HB2.out⟩
set_option maxRecDepth 100000 in
set_option maxHeartbeats 2000000 in
theorem rFits_4_3 (b neg : Bool) (dig : ByteArray) (exp : Int) (u : Nat) (wd : Int) (s : ByteArray) (A : Option Addr) (c : Nat) (w : World) (O : Option Nat) (hWi : ∀ W, Calls Tryz.prog 36 #[.int .u64 (u : Int), .int .i64 wd] W (WidP O W)) (L : Int) (hLe : ∀ W, Calls Tryz.prog 37 #[.int .u64 ((O.getD 0 : Nat) : Int)] W fun o w' => o = .returned (.int .i64 L) ∧ ∃ m, w' = W.drewN m) : Calls Tryz.prog 21 #[.agg ((⟨4, b, neg, dig, exp, u, wd, s⟩ : Hd).cells (.slice A 0 c)), .int .i64 3] w (BolP (L == wd) w) := by
  have HWi := Lib.hid hWi
  clear hWi
  have HLe := Lib.hid hLe
  clear hLe
  have HX := Lib.hid (Nx.new w ⟨4, b, neg, dig, exp, u, wd, s⟩ (.slice A 0 c))
  simp only [Hd.cells]
  go_enter Tryz.func21, Tryz.ntmps21
  go_wp2_with fail
  refine (HWi.out _).mono ?_
  rintro o w1 ⟨rfl, hb1⟩
  replace HX := Lib.hid (HX.out.below hb1)
  have HB := Lib.hid (below_nx (below_a (Below.refl _ _) _) hb1)
  clear hb1 HWi
  obtain ⟨x, hx⟩ : ∃ x : Nat, x = O.getD 0 := ⟨_, rfl⟩
  obtain ⟨z, hz⟩ : ∃ z : Int, z = (if O.isSome = true then 0 else 2) := ⟨_, rfl⟩
  rw [← hx, ← hz]
  rw [← hx] at HLe
  clear hx hz
  have y6 := HX.out.nine.2.2.2.2.2.2.1
  go_wp2_with fail
  go_quiet (first | (go_at_call 37; exact Calls.quiet_of (HLe.out _)))
  have HB2 := Lib.hid (below_drewN HB.out nq)
  have c8 : (w1.drewN nq).cell? ⟨w.heap.size, 8, none⟩ = some (.slice A 0 c) := by rw [World.cell?_drewN]; exact HX.out.c8
  clear y6
  go_wp2_with fail
  refine wp_loop_rounds 1 ?_
  rw [rounds_succ]
  go_wp2_with fail
  go_ret
  exact ⟨by first | rfl | (show Ending.returned (Value.bool _) = Ending.returned (Value.bool _); simp [*]), HB2.out⟩
set_option maxRecDepth 100000 in
set_option maxHeartbeats 2000000 in
theorem rFits_4_4 (b neg : Bool) (dig : ByteArray) (exp : Int) (u : Nat) (wd : Int) (s : ByteArray) (A : Option Addr) (c : Nat) (w : World) (O : Option Nat) (hWi : ∀ W, Calls Tryz.prog 36 #[.int .u64 (u : Int), .int .i64 wd] W (WidP O W)) : Calls Tryz.prog 21 #[.agg ((⟨4, b, neg, dig, exp, u, wd, s⟩ : Hd).cells (.slice A 0 c)), .int .i64 4] w (BolP (decide (¬ wd = 16)) w) := by
  have HWi := Lib.hid hWi
  clear hWi
  have HX := Lib.hid (Nx.new w ⟨4, b, neg, dig, exp, u, wd, s⟩ (.slice A 0 c))
  simp only [Hd.cells]
  go_enter Tryz.func21, Tryz.ntmps21
  go_wp2_with fail
  refine (HWi.out _).mono ?_
  rintro o w1 ⟨rfl, hb1⟩
  replace HX := Lib.hid (HX.out.below hb1)
  have HB := Lib.hid (below_nx (below_a (Below.refl _ _) _) hb1)
  clear hb1 HWi
  obtain ⟨x, hx⟩ : ∃ x : Nat, x = O.getD 0 := ⟨_, rfl⟩
  obtain ⟨z, hz⟩ : ∃ z : Int, z = (if O.isSome = true then 0 else 2) := ⟨_, rfl⟩
  rw [← hx, ← hz]
  clear hx hz
  have y6 := HX.out.nine.2.2.2.2.2.2.1
  by_cases g : wd = 16
  · subst g
    go_wp2_with fail
    go_quiet (fail)
    have HB2 := Lib.hid (below_drewN HB.out nq)
    have c8 : (w1.drewN nq).cell? ⟨w.heap.size, 8, none⟩ = some (.slice A 0 c) := by rw [World.cell?_drewN]; exact HX.out.c8
    clear y6
    go_wp2_with fail
    refine wp_loop_rounds 1 ?_
    rw [rounds_succ]
    go_wp2_with fail
    go_ret
    exact ⟨by first | rfl | (show Ending.returned (Value.bool _) = Ending.returned (Value.bool _); simp [*]), HB2.out⟩
  · skip
    go_wp2_with fail
    go_quiet (fail)
    have HB2 := Lib.hid (below_drewN HB.out nq)
    have c8 : (w1.drewN nq).cell? ⟨w.heap.size, 8, none⟩ = some (.slice A 0 c) := by rw [World.cell?_drewN]; exact HX.out.c8
    clear y6
    go_wp2_with fail
    refine wp_loop_rounds 1 ?_
    rw [rounds_succ]
    go_wp2_with fail
    go_ret
    exact ⟨by first | rfl | (show Ending.returned (Value.bool _) = Ending.returned (Value.bool _); simp [*]), HB2.out⟩
set_option maxRecDepth 100000 in
set_option maxHeartbeats 2000000 in
theorem rFits_4_lo (b neg : Bool) (dig : ByteArray) (exp : Int) (u : Nat) (wd : Int) (s : ByteArray) (n : Int) (A : Option Addr) (c : Nat) (w : World) (g1 : ¬ (1 : Int) ≤ n) (O : Option Nat) (hWi : ∀ W, Calls Tryz.prog 36 #[.int .u64 (u : Int), .int .i64 wd] W (WidP O W)) : Calls Tryz.prog 21 #[.agg ((⟨4, b, neg, dig, exp, u, wd, s⟩ : Hd).cells (.slice A 0 c)), .int .i64 n] w (BolP false w) := by
  have HWi := Lib.hid hWi
  clear hWi
  have HX := Lib.hid (Nx.new w ⟨4, b, neg, dig, exp, u, wd, s⟩ (.slice A 0 c))
  simp only [Hd.cells]
  go_enter Tryz.func21, Tryz.ntmps21
  go_wp2_with fail
  refine (HWi.out _).mono ?_
  rintro o w1 ⟨rfl, hb1⟩
  replace HX := Lib.hid (HX.out.below hb1)
  have HB := Lib.hid (below_nx (below_a (Below.refl _ _) _) hb1)
  clear hb1 HWi
  obtain ⟨x, hx⟩ : ∃ x : Nat, x = O.getD 0 := ⟨_, rfl⟩
  obtain ⟨z, hz⟩ : ∃ z : Int, z = (if O.isSome = true then 0 else 2) := ⟨_, rfl⟩
  rw [← hx, ← hz]
  clear hx hz
  have y6 := HX.out.nine.2.2.2.2.2.2.1
  go_wp2_with fail
  go_quiet (fail)
  have HB2 := Lib.hid (below_drewN HB.out nq)
  have c8 : (w1.drewN nq).cell? ⟨w.heap.size, 8, none⟩ = some (.slice A 0 c) := by rw [World.cell?_drewN]; exact HX.out.c8
  clear y6
  go_wp2_with fail
  refine wp_loop_rounds 1 ?_
  rw [rounds_succ]
  go_wp2_with fail
  go_ret
  exact ⟨by first | rfl | (show Ending.returned (Value.bool _) = Ending.returned (Value.bool _); simp [*]), HB2.out⟩
set_option maxRecDepth 100000 in
set_option maxHeartbeats 2000000 in
theorem rFits_4_hi (b neg : Bool) (dig : ByteArray) (exp : Int) (u : Nat) (wd : Int) (s : ByteArray) (n : Int) (A : Option Addr) (c : Nat) (w : World) (g1 : (1 : Int) ≤ n) (g2 : ¬ n ≤ 4) (O : Option Nat) (hWi : ∀ W, Calls Tryz.prog 36 #[.int .u64 (u : Int), .int .i64 wd] W (WidP O W)) : Calls Tryz.prog 21 #[.agg ((⟨4, b, neg, dig, exp, u, wd, s⟩ : Hd).cells (.slice A 0 c)), .int .i64 n] w (BolP false w) := by
  have HWi := Lib.hid hWi
  clear hWi
  have HX := Lib.hid (Nx.new w ⟨4, b, neg, dig, exp, u, wd, s⟩ (.slice A 0 c))
  simp only [Hd.cells]
  go_enter Tryz.func21, Tryz.ntmps21
  go_wp2_with fail
  refine (HWi.out _).mono ?_
  rintro o w1 ⟨rfl, hb1⟩
  replace HX := Lib.hid (HX.out.below hb1)
  have HB := Lib.hid (below_nx (below_a (Below.refl _ _) _) hb1)
  clear hb1 HWi
  obtain ⟨x, hx⟩ : ∃ x : Nat, x = O.getD 0 := ⟨_, rfl⟩
  obtain ⟨z, hz⟩ : ∃ z : Int, z = (if O.isSome = true then 0 else 2) := ⟨_, rfl⟩
  rw [← hx, ← hz]
  clear hx hz
  have y6 := HX.out.nine.2.2.2.2.2.2.1
  go_wp2_with fail
  go_quiet (fail)
  have HB2 := Lib.hid (below_drewN HB.out nq)
  have c8 : (w1.drewN nq).cell? ⟨w.heap.size, 8, none⟩ = some (.slice A 0 c) := by rw [World.cell?_drewN]; exact HX.out.c8
  clear y6
  go_wp2_with fail
  refine wp_loop_rounds 1 ?_
  rw [rounds_succ]
  go_wp2_with fail
  go_ret
  exact ⟨by first | rfl | (show Ending.returned (Value.bool _) = Ending.returned (Value.bool _); simp [*]), HB2.out⟩
end Go.Proofs.YtomociaidccfmaaGreatDoor

namespace Go.Proofs.YtomociaidccfmaaGreatDoor
open Go.RowKit

set_option maxRecDepth 100000 in
set_option maxHeartbeats 3000000 in
theorem rFits_7_in (h : Hd) (k : Fo) (v : Value) (n : Int) (w : World) (hk : Kd An w v k) (hK : h.kind = 7) (h1 : 1 ≤ n) (h4 : n ≤ 4)
    (hI : ∀ (j : Nat) (h' : Hd) (k' r : Fo) (v' : Value) (W : World), k.drop j = .cons h' k' r → Below w.heap.size w W → Kd An w v' k' → h'.u < 18446744073709551616 → Calls Tryz.prog 21 #[.agg (h'.cells v'), .int .i64 n] W (BolP (fitAll (frmOf n) (.cons h' k' .nil)) W)) :
    Calls Tryz.prog 21 #[.agg (h.cells v), .int .i64 n] w (BolP (fitAll (frmOf n) (.cons h k .nil)) w) := by
  obtain ⟨A, c, rfl, hc, hl, hL⟩ := hk.form
  obtain ⟨F, hF⟩ : ∃ F, F = frmOf n := ⟨_, rfl⟩
  have HFin : Hid (fitAll F (.cons h k .nil) = (true && fitAll F k)) := Lib.hid (by
    have e : fitN F h k = true := by
      have hn : n = 1 ∨ n = 2 ∨ n = 3 ∨ n = 4 := by omega
      rw [hF, fitN, hK]
      rcases hn with rfl | rfl | rfl | rfl <;> simp [frmOf, hasB]
    simp [fitAll, e])
  rw [← hF] at hI
  have HI := Lib.hid hI
  have HL := Lib.hid hL
  clear hk hL hI hc
  rw [← hF]
  clear hF
  rcases h with ⟨kd, b, neg, dig, exp, u, wd, s⟩
  obtain rfl : kd = 7 := hK
  have HX := Lib.hid (Nx.new w ⟨7, b, neg, dig, exp, u, wd, s⟩ (.slice A k.len c))
  have HB := Lib.hid (below_a (Below.refl _ w) (.cells ((⟨7, b, neg, dig, exp, u, wd, s⟩ : Hd).cells (.slice A k.len c)) 27))
  simp only [Hd.cells]
  go_enter Tryz.func21, Tryz.ntmps21
  go_wp2_with fail
  go_loopw [5, 12] (fun x i wr => ∃ j : Nat, i = .int .i64 j ∧ j ≤ k.len ∧ x = .bool (true && fitAll F (k.take j)) ∧ Below w.heap.size w wr ∧ Nx wr w.heap.size ⟨7, b, neg, dig, exp, u, wd, s⟩ (.slice A k.len c)) (fun _ i _ => k.len - (intOf i).toNat)
  case atStart => exact ⟨0, rfl, Nat.zero_le _, by simp [Fo.take, fitAll], HB.out, HX.out⟩
  case round =>
    obtain ⟨j, rfl, hj, rfl, hb, hbx⟩ := hrel
    have HB3 := Lib.hid hb
    have HX3 := Lib.hid hbx
    have c8 := hbx.c8
    clear hb hbx HB HX
    by_cases hgo : j < k.len
    · obtain ⟨B, o, rfl, hB, _, hLi⟩ := HL.out (by omega)
      obtain ⟨h', k', r, hd⟩ := drop_cons hgo
      have hLj := lies_drop j hLi
      rw [hd] at hLj
      obtain ⟨⟨v', hc', hk'⟩, hu', _⟩ := lies_cons.1 hLj
      obtain ⟨Q, hQ⟩ : ∃ Q, Q = fitAll F (.cons h' k' .nil) := ⟨_, rfl⟩
      have HC : Hid (∀ W, Below w.heap.size w W → Calls Tryz.prog 21 #[.agg (h'.cells v'), .int .i64 n] W (BolP Q W)) := Lib.hid (fun W hW => by rw [hQ]; exact HI.out j h' k' r v' W hd hW hk' hu')
      obtain ⟨P, hP⟩ : ∃ P, P = (true && fitAll F (k.take j)) := ⟨_, rfl⟩
      have HE : Hid ((true && fitAll F (k.take (j + 1))) = (P && Q)) := Lib.hid (by rw [take_app j k hd, fitAll_app, ← Bool.and_assoc, ← hP, hQ])
      rw [← hP]
      obtain ⟨d0, d1, d2, d3, d4, d5, d6, d7, d8⟩ := (hc'.below HB3.out).nine
      clear hLi hLj hc' hk' hd hu' hQ hP
      cases P with
      | true =>
        go_wp2_with fail
        refine (HC.out _ HB3.out).mono ?_
        rintro e w4 ⟨rfl, hb4⟩
        have HB4 := Lib.hid (below_nx HB3.out hb4)
        have HX4 := Lib.hid (HX3.out.below hb4)
        clear hb4 d0 d1 d2 d3 d4 d5 d6 d7 d8 c8
        go_wp2_with fail
        go_roundw
        case rel => exact ⟨j + 1, by go_num, hgo, by rw [HE.out, Bool.true_and], HB4.out, HX4.out⟩
        case measure => simp [intOf]; omega
      | false =>
        clear d0 d1 d2 d3 d4 d5 d6 d7 d8
        go_wp2_with fail
        go_roundw
        case rel => exact ⟨j + 1, by go_num, hgo, by rw [HE.out, Bool.false_and], HB3.out, HX3.out⟩
        case measure => simp [intOf]; omega
    · have HE : Hid (k.take j = k) := Lib.hid (by rw [show j = k.len by omega, take_all])
      go_wp2_with fail
      go_ret
      exact ⟨by rw [HFin.out]; show Ending.returned (Value.bool (true && fitAll F (k.take j))) = _; rw [HE.out], HB3.out⟩
set_option maxRecDepth 100000 in
set_option maxHeartbeats 3000000 in
theorem rFits_7_lo (h : Hd) (k : Fo) (v : Value) (n : Int) (w : World) (hk : Kd An w v k) (hK : h.kind = 7) (g1 : ¬ (1 : Int) ≤ n)
    (hI : ∀ (j : Nat) (h' : Hd) (k' r : Fo) (v' : Value) (W : World), k.drop j = .cons h' k' r → Below w.heap.size w W → Kd An w v' k' → h'.u < 18446744073709551616 → Calls Tryz.prog 21 #[.agg (h'.cells v'), .int .i64 n] W (BolP (fitAll (frmOf n) (.cons h' k' .nil)) W)) :
    Calls Tryz.prog 21 #[.agg (h.cells v), .int .i64 n] w (BolP (fitAll (frmOf n) (.cons h k .nil)) w) := by
  obtain ⟨A, c, rfl, hc, hl, hL⟩ := hk.form
  obtain ⟨F, hF⟩ : ∃ F, F = frmOf n := ⟨_, rfl⟩
  have HFin : Hid (fitAll F (.cons h k .nil) = (false && fitAll F k)) := Lib.hid (by
    have e : fitN F h k = false := by
      rw [hF, frm_no (by omega), fitN, hasB_0, Bool.false_and]
    simp [fitAll, e])
  rw [← hF] at hI
  have HI := Lib.hid hI
  have HL := Lib.hid hL
  clear hk hL hI hc
  rw [← hF]
  clear hF
  rcases h with ⟨kd, b, neg, dig, exp, u, wd, s⟩
  obtain rfl : kd = 7 := hK
  have HX := Lib.hid (Nx.new w ⟨7, b, neg, dig, exp, u, wd, s⟩ (.slice A k.len c))
  have HB := Lib.hid (below_a (Below.refl _ w) (.cells ((⟨7, b, neg, dig, exp, u, wd, s⟩ : Hd).cells (.slice A k.len c)) 27))
  simp only [Hd.cells]
  go_enter Tryz.func21, Tryz.ntmps21
  go_wp2_with fail
  go_loopw [5, 12] (fun x i wr => ∃ j : Nat, i = .int .i64 j ∧ j ≤ k.len ∧ x = .bool (false && fitAll F (k.take j)) ∧ Below w.heap.size w wr ∧ Nx wr w.heap.size ⟨7, b, neg, dig, exp, u, wd, s⟩ (.slice A k.len c)) (fun _ i _ => k.len - (intOf i).toNat)
  case atStart => exact ⟨0, rfl, Nat.zero_le _, by simp [Fo.take, fitAll], HB.out, HX.out⟩
  case round =>
    obtain ⟨j, rfl, hj, rfl, hb, hbx⟩ := hrel
    have HB3 := Lib.hid hb
    have HX3 := Lib.hid hbx
    have c8 := hbx.c8
    clear hb hbx HB HX
    by_cases hgo : j < k.len
    · obtain ⟨B, o, rfl, hB, _, hLi⟩ := HL.out (by omega)
      obtain ⟨h', k', r, hd⟩ := drop_cons hgo
      have hLj := lies_drop j hLi
      rw [hd] at hLj
      obtain ⟨⟨v', hc', hk'⟩, hu', _⟩ := lies_cons.1 hLj
      obtain ⟨Q, hQ⟩ : ∃ Q, Q = fitAll F (.cons h' k' .nil) := ⟨_, rfl⟩
      have HC : Hid (∀ W, Below w.heap.size w W → Calls Tryz.prog 21 #[.agg (h'.cells v'), .int .i64 n] W (BolP Q W)) := Lib.hid (fun W hW => by rw [hQ]; exact HI.out j h' k' r v' W hd hW hk' hu')
      obtain ⟨P, hP⟩ : ∃ P, P = (false && fitAll F (k.take j)) := ⟨_, rfl⟩
      have HE : Hid ((false && fitAll F (k.take (j + 1))) = (P && Q)) := Lib.hid (by rw [take_app j k hd, fitAll_app, ← Bool.and_assoc, ← hP, hQ])
      rw [← hP]
      obtain ⟨d0, d1, d2, d3, d4, d5, d6, d7, d8⟩ := (hc'.below HB3.out).nine
      clear hLi hLj hc' hk' hd hu' hQ hP
      cases P with
      | true =>
        go_wp2_with fail
        refine (HC.out _ HB3.out).mono ?_
        rintro e w4 ⟨rfl, hb4⟩
        have HB4 := Lib.hid (below_nx HB3.out hb4)
        have HX4 := Lib.hid (HX3.out.below hb4)
        clear hb4 d0 d1 d2 d3 d4 d5 d6 d7 d8 c8
        go_wp2_with fail
        go_roundw
        case rel => exact ⟨j + 1, by go_num, hgo, by rw [HE.out, Bool.true_and], HB4.out, HX4.out⟩
        case measure => simp [intOf]; omega
      | false =>
        clear d0 d1 d2 d3 d4 d5 d6 d7 d8
        go_wp2_with fail
        go_roundw
        case rel => exact ⟨j + 1, by go_num, hgo, by rw [HE.out, Bool.false_and], HB3.out, HX3.out⟩
        case measure => simp [intOf]; omega
    · have HE : Hid (k.take j = k) := Lib.hid (by rw [show j = k.len by omega, take_all])
      go_wp2_with fail
      go_ret
      exact ⟨by rw [HFin.out]; show Ending.returned (Value.bool (false && fitAll F (k.take j))) = _; rw [HE.out], HB3.out⟩
set_option maxRecDepth 100000 in
set_option maxHeartbeats 3000000 in
theorem rFits_7_hi (h : Hd) (k : Fo) (v : Value) (n : Int) (w : World) (hk : Kd An w v k) (hK : h.kind = 7) (g1 : (1 : Int) ≤ n) (g2 : ¬ n ≤ 4)
    (hI : ∀ (j : Nat) (h' : Hd) (k' r : Fo) (v' : Value) (W : World), k.drop j = .cons h' k' r → Below w.heap.size w W → Kd An w v' k' → h'.u < 18446744073709551616 → Calls Tryz.prog 21 #[.agg (h'.cells v'), .int .i64 n] W (BolP (fitAll (frmOf n) (.cons h' k' .nil)) W)) :
    Calls Tryz.prog 21 #[.agg (h.cells v), .int .i64 n] w (BolP (fitAll (frmOf n) (.cons h k .nil)) w) := by
  obtain ⟨A, c, rfl, hc, hl, hL⟩ := hk.form
  obtain ⟨F, hF⟩ : ∃ F, F = frmOf n := ⟨_, rfl⟩
  have HFin : Hid (fitAll F (.cons h k .nil) = (false && fitAll F k)) := Lib.hid (by
    have e : fitN F h k = false := by
      rw [hF, frm_no (by omega), fitN, hasB_0, Bool.false_and]
    simp [fitAll, e])
  rw [← hF] at hI
  have HI := Lib.hid hI
  have HL := Lib.hid hL
  clear hk hL hI hc
  rw [← hF]
  clear hF
  rcases h with ⟨kd, b, neg, dig, exp, u, wd, s⟩
  obtain rfl : kd = 7 := hK
  have HX := Lib.hid (Nx.new w ⟨7, b, neg, dig, exp, u, wd, s⟩ (.slice A k.len c))
  have HB := Lib.hid (below_a (Below.refl _ w) (.cells ((⟨7, b, neg, dig, exp, u, wd, s⟩ : Hd).cells (.slice A k.len c)) 27))
  simp only [Hd.cells]
  go_enter Tryz.func21, Tryz.ntmps21
  go_wp2_with fail
  go_loopw [5, 12] (fun x i wr => ∃ j : Nat, i = .int .i64 j ∧ j ≤ k.len ∧ x = .bool (false && fitAll F (k.take j)) ∧ Below w.heap.size w wr ∧ Nx wr w.heap.size ⟨7, b, neg, dig, exp, u, wd, s⟩ (.slice A k.len c)) (fun _ i _ => k.len - (intOf i).toNat)
  case atStart => exact ⟨0, rfl, Nat.zero_le _, by simp [Fo.take, fitAll], HB.out, HX.out⟩
  case round =>
    obtain ⟨j, rfl, hj, rfl, hb, hbx⟩ := hrel
    have HB3 := Lib.hid hb
    have HX3 := Lib.hid hbx
    have c8 := hbx.c8
    clear hb hbx HB HX
    by_cases hgo : j < k.len
    · obtain ⟨B, o, rfl, hB, _, hLi⟩ := HL.out (by omega)
      obtain ⟨h', k', r, hd⟩ := drop_cons hgo
      have hLj := lies_drop j hLi
      rw [hd] at hLj
      obtain ⟨⟨v', hc', hk'⟩, hu', _⟩ := lies_cons.1 hLj
      obtain ⟨Q, hQ⟩ : ∃ Q, Q = fitAll F (.cons h' k' .nil) := ⟨_, rfl⟩
      have HC : Hid (∀ W, Below w.heap.size w W → Calls Tryz.prog 21 #[.agg (h'.cells v'), .int .i64 n] W (BolP Q W)) := Lib.hid (fun W hW => by rw [hQ]; exact HI.out j h' k' r v' W hd hW hk' hu')
      obtain ⟨P, hP⟩ : ∃ P, P = (false && fitAll F (k.take j)) := ⟨_, rfl⟩
      have HE : Hid ((false && fitAll F (k.take (j + 1))) = (P && Q)) := Lib.hid (by rw [take_app j k hd, fitAll_app, ← Bool.and_assoc, ← hP, hQ])
      rw [← hP]
      obtain ⟨d0, d1, d2, d3, d4, d5, d6, d7, d8⟩ := (hc'.below HB3.out).nine
      clear hLi hLj hc' hk' hd hu' hQ hP
      cases P with
      | true =>
        go_wp2_with fail
        refine (HC.out _ HB3.out).mono ?_
        rintro e w4 ⟨rfl, hb4⟩
        have HB4 := Lib.hid (below_nx HB3.out hb4)
        have HX4 := Lib.hid (HX3.out.below hb4)
        clear hb4 d0 d1 d2 d3 d4 d5 d6 d7 d8 c8
        go_wp2_with fail
        go_roundw
        case rel => exact ⟨j + 1, by go_num, hgo, by rw [HE.out, Bool.true_and], HB4.out, HX4.out⟩
        case measure => simp [intOf]; omega
      | false =>
        clear d0 d1 d2 d3 d4 d5 d6 d7 d8
        go_wp2_with fail
        go_roundw
        case rel => exact ⟨j + 1, by go_num, hgo, by rw [HE.out, Bool.false_and], HB3.out, HX3.out⟩
        case measure => simp [intOf]; omega
    · have HE : Hid (k.take j = k) := Lib.hid (by rw [show j = k.len by omega, take_all])
      go_wp2_with fail
      go_ret
      exact ⟨by rw [HFin.out]; show Ending.returned (Value.bool (false && fitAll F (k.take j))) = _; rw [HE.out], HB3.out⟩
set_option maxRecDepth 100000 in
set_option maxHeartbeats 3000000 in
theorem rFits_9_1 (h : Hd) (k : Fo) (v : Value) (n : Int) (w : World) (hk : Kd An w v k) (hK : h.kind = 9) (hn : n = 1)
    (hI : ∀ (j : Nat) (h' : Hd) (k' r : Fo) (v' : Value) (W : World), k.drop j = .cons h' k' r → Below w.heap.size w W → Kd An w v' k' → h'.u < 18446744073709551616 → Calls Tryz.prog 21 #[.agg (h'.cells v'), .int .i64 n] W (BolP (fitAll (frmOf n) (.cons h' k' .nil)) W)) :
    Calls Tryz.prog 21 #[.agg (h.cells v), .int .i64 n] w (BolP (fitAll (frmOf n) (.cons h k .nil)) w) := by
  obtain ⟨A, c, rfl, hc, hl, hL⟩ := hk.form
  obtain ⟨F, hF⟩ : ∃ F, F = frmOf n := ⟨_, rfl⟩
  have HFin : Hid (fitAll F (.cons h k .nil) = (false && fitAll F k)) := Lib.hid (by
    have e : fitN F h k = false := by
      rw [hF, fitN, hK, hn]
      simp [frmOf, hasB]
    simp [fitAll, e])
  rw [← hF] at hI
  have HI := Lib.hid hI
  have HL := Lib.hid hL
  clear hk hL hI hc
  rw [← hF]
  clear hF
  rcases h with ⟨kd, b, neg, dig, exp, u, wd, s⟩
  obtain rfl : kd = 9 := hK
  have HX := Lib.hid (Nx.new w ⟨9, b, neg, dig, exp, u, wd, s⟩ (.slice A k.len c))
  have HB := Lib.hid (below_a (Below.refl _ w) (.cells ((⟨9, b, neg, dig, exp, u, wd, s⟩ : Hd).cells (.slice A k.len c)) 27))
  subst hn
  simp only [Hd.cells]
  go_enter Tryz.func21, Tryz.ntmps21
  go_wp2_with fail
  go_loopw [5, 12] (fun x i wr => ∃ j : Nat, i = .int .i64 j ∧ j ≤ k.len ∧ x = .bool (false && fitAll F (k.take j)) ∧ Below w.heap.size w wr ∧ Nx wr w.heap.size ⟨9, b, neg, dig, exp, u, wd, s⟩ (.slice A k.len c)) (fun _ i _ => k.len - (intOf i).toNat)
  case atStart => exact ⟨0, rfl, Nat.zero_le _, by simp [Fo.take, fitAll], HB.out, HX.out⟩
  case round =>
    obtain ⟨j, rfl, hj, rfl, hb, hbx⟩ := hrel
    have HB3 := Lib.hid hb
    have HX3 := Lib.hid hbx
    have c8 := hbx.c8
    clear hb hbx HB HX
    by_cases hgo : j < k.len
    · obtain ⟨B, o, rfl, hB, _, hLi⟩ := HL.out (by omega)
      obtain ⟨h', k', r, hd⟩ := drop_cons hgo
      have hLj := lies_drop j hLi
      rw [hd] at hLj
      obtain ⟨⟨v', hc', hk'⟩, hu', _⟩ := lies_cons.1 hLj
      obtain ⟨Q, hQ⟩ : ∃ Q, Q = fitAll F (.cons h' k' .nil) := ⟨_, rfl⟩
      have HC : Hid (∀ W, Below w.heap.size w W → Calls Tryz.prog 21 #[.agg (h'.cells v'), .int .i64 1] W (BolP Q W)) := Lib.hid (fun W hW => by rw [hQ]; exact HI.out j h' k' r v' W hd hW hk' hu')
      obtain ⟨P, hP⟩ : ∃ P, P = (false && fitAll F (k.take j)) := ⟨_, rfl⟩
      have HE : Hid ((false && fitAll F (k.take (j + 1))) = (P && Q)) := Lib.hid (by rw [take_app j k hd, fitAll_app, ← Bool.and_assoc, ← hP, hQ])
      rw [← hP]
      obtain ⟨d0, d1, d2, d3, d4, d5, d6, d7, d8⟩ := (hc'.below HB3.out).nine
      clear hLi hLj hc' hk' hd hu' hQ hP
      cases P with
      | true =>
        go_wp2_with fail
        refine (HC.out _ HB3.out).mono ?_
        rintro e w4 ⟨rfl, hb4⟩
        have HB4 := Lib.hid (below_nx HB3.out hb4)
        have HX4 := Lib.hid (HX3.out.below hb4)
        clear hb4 d0 d1 d2 d3 d4 d5 d6 d7 d8 c8
        go_wp2_with fail
        go_roundw
        case rel => exact ⟨j + 1, by go_num, hgo, by rw [HE.out, Bool.true_and], HB4.out, HX4.out⟩
        case measure => simp [intOf]; omega
      | false =>
        clear d0 d1 d2 d3 d4 d5 d6 d7 d8
        go_wp2_with fail
        go_roundw
        case rel => exact ⟨j + 1, by go_num, hgo, by rw [HE.out, Bool.false_and], HB3.out, HX3.out⟩
        case measure => simp [intOf]; omega
    · have HE : Hid (k.take j = k) := Lib.hid (by rw [show j = k.len by omega, take_all])
      go_wp2_with fail
      go_ret
      exact ⟨by rw [HFin.out]; show Ending.returned (Value.bool (false && fitAll F (k.take j))) = _; rw [HE.out], HB3.out⟩
set_option maxRecDepth 100000 in
set_option maxHeartbeats 3000000 in
theorem rFits_9_2 (h : Hd) (k : Fo) (v : Value) (n : Int) (w : World) (hk : Kd An w v k) (hK : h.kind = 9) (hn : n = 2)
    (hI : ∀ (j : Nat) (h' : Hd) (k' r : Fo) (v' : Value) (W : World), k.drop j = .cons h' k' r → Below w.heap.size w W → Kd An w v' k' → h'.u < 18446744073709551616 → Calls Tryz.prog 21 #[.agg (h'.cells v'), .int .i64 n] W (BolP (fitAll (frmOf n) (.cons h' k' .nil)) W)) :
    Calls Tryz.prog 21 #[.agg (h.cells v), .int .i64 n] w (BolP (fitAll (frmOf n) (.cons h k .nil)) w) := by
  obtain ⟨A, c, rfl, hc, hl, hL⟩ := hk.form
  obtain ⟨F, hF⟩ : ∃ F, F = frmOf n := ⟨_, rfl⟩
  have HFin : Hid (fitAll F (.cons h k .nil) = (true && fitAll F k)) := Lib.hid (by
    have e : fitN F h k = true := by
      rw [hF, fitN, hK, hn]
      simp [frmOf, hasB]
    simp [fitAll, e])
  rw [← hF] at hI
  have HI := Lib.hid hI
  have HL := Lib.hid hL
  clear hk hL hI hc
  rw [← hF]
  clear hF
  rcases h with ⟨kd, b, neg, dig, exp, u, wd, s⟩
  obtain rfl : kd = 9 := hK
  have HX := Lib.hid (Nx.new w ⟨9, b, neg, dig, exp, u, wd, s⟩ (.slice A k.len c))
  have HB := Lib.hid (below_a (Below.refl _ w) (.cells ((⟨9, b, neg, dig, exp, u, wd, s⟩ : Hd).cells (.slice A k.len c)) 27))
  subst hn
  simp only [Hd.cells]
  go_enter Tryz.func21, Tryz.ntmps21
  go_wp2_with fail
  go_loopw [5, 12] (fun x i wr => ∃ j : Nat, i = .int .i64 j ∧ j ≤ k.len ∧ x = .bool (true && fitAll F (k.take j)) ∧ Below w.heap.size w wr ∧ Nx wr w.heap.size ⟨9, b, neg, dig, exp, u, wd, s⟩ (.slice A k.len c)) (fun _ i _ => k.len - (intOf i).toNat)
  case atStart => exact ⟨0, rfl, Nat.zero_le _, by simp [Fo.take, fitAll], HB.out, HX.out⟩
  case round =>
    obtain ⟨j, rfl, hj, rfl, hb, hbx⟩ := hrel
    have HB3 := Lib.hid hb
    have HX3 := Lib.hid hbx
    have c8 := hbx.c8
    clear hb hbx HB HX
    by_cases hgo : j < k.len
    · obtain ⟨B, o, rfl, hB, _, hLi⟩ := HL.out (by omega)
      obtain ⟨h', k', r, hd⟩ := drop_cons hgo
      have hLj := lies_drop j hLi
      rw [hd] at hLj
      obtain ⟨⟨v', hc', hk'⟩, hu', _⟩ := lies_cons.1 hLj
      obtain ⟨Q, hQ⟩ : ∃ Q, Q = fitAll F (.cons h' k' .nil) := ⟨_, rfl⟩
      have HC : Hid (∀ W, Below w.heap.size w W → Calls Tryz.prog 21 #[.agg (h'.cells v'), .int .i64 2] W (BolP Q W)) := Lib.hid (fun W hW => by rw [hQ]; exact HI.out j h' k' r v' W hd hW hk' hu')
      obtain ⟨P, hP⟩ : ∃ P, P = (true && fitAll F (k.take j)) := ⟨_, rfl⟩
      have HE : Hid ((true && fitAll F (k.take (j + 1))) = (P && Q)) := Lib.hid (by rw [take_app j k hd, fitAll_app, ← Bool.and_assoc, ← hP, hQ])
      rw [← hP]
      obtain ⟨d0, d1, d2, d3, d4, d5, d6, d7, d8⟩ := (hc'.below HB3.out).nine
      clear hLi hLj hc' hk' hd hu' hQ hP
      cases P with
      | true =>
        go_wp2_with fail
        refine (HC.out _ HB3.out).mono ?_
        rintro e w4 ⟨rfl, hb4⟩
        have HB4 := Lib.hid (below_nx HB3.out hb4)
        have HX4 := Lib.hid (HX3.out.below hb4)
        clear hb4 d0 d1 d2 d3 d4 d5 d6 d7 d8 c8
        go_wp2_with fail
        go_roundw
        case rel => exact ⟨j + 1, by go_num, hgo, by rw [HE.out, Bool.true_and], HB4.out, HX4.out⟩
        case measure => simp [intOf]; omega
      | false =>
        clear d0 d1 d2 d3 d4 d5 d6 d7 d8
        go_wp2_with fail
        go_roundw
        case rel => exact ⟨j + 1, by go_num, hgo, by rw [HE.out, Bool.false_and], HB3.out, HX3.out⟩
        case measure => simp [intOf]; omega
    · have HE : Hid (k.take j = k) := Lib.hid (by rw [show j = k.len by omega, take_all])
      go_wp2_with fail
      go_ret
      exact ⟨by rw [HFin.out]; show Ending.returned (Value.bool (true && fitAll F (k.take j))) = _; rw [HE.out], HB3.out⟩
set_option maxRecDepth 100000 in
set_option maxHeartbeats 3000000 in
theorem rFits_9_3 (h : Hd) (k : Fo) (v : Value) (n : Int) (w : World) (hk : Kd An w v k) (hK : h.kind = 9) (hn : n = 3)
    (hI : ∀ (j : Nat) (h' : Hd) (k' r : Fo) (v' : Value) (W : World), k.drop j = .cons h' k' r → Below w.heap.size w W → Kd An w v' k' → h'.u < 18446744073709551616 → Calls Tryz.prog 21 #[.agg (h'.cells v'), .int .i64 n] W (BolP (fitAll (frmOf n) (.cons h' k' .nil)) W)) :
    Calls Tryz.prog 21 #[.agg (h.cells v), .int .i64 n] w (BolP (fitAll (frmOf n) (.cons h k .nil)) w) := by
  obtain ⟨A, c, rfl, hc, hl, hL⟩ := hk.form
  obtain ⟨F, hF⟩ : ∃ F, F = frmOf n := ⟨_, rfl⟩
  have HFin : Hid (fitAll F (.cons h k .nil) = (true && fitAll F k)) := Lib.hid (by
    have e : fitN F h k = true := by
      rw [hF, fitN, hK, hn]
      simp [frmOf, hasB]
    simp [fitAll, e])
  rw [← hF] at hI
  have HI := Lib.hid hI
  have HL := Lib.hid hL
  clear hk hL hI hc
  rw [← hF]
  clear hF
  rcases h with ⟨kd, b, neg, dig, exp, u, wd, s⟩
  obtain rfl : kd = 9 := hK
  have HX := Lib.hid (Nx.new w ⟨9, b, neg, dig, exp, u, wd, s⟩ (.slice A k.len c))
  have HB := Lib.hid (below_a (Below.refl _ w) (.cells ((⟨9, b, neg, dig, exp, u, wd, s⟩ : Hd).cells (.slice A k.len c)) 27))
  subst hn
  simp only [Hd.cells]
  go_enter Tryz.func21, Tryz.ntmps21
  go_wp2_with fail
  go_loopw [5, 12] (fun x i wr => ∃ j : Nat, i = .int .i64 j ∧ j ≤ k.len ∧ x = .bool (true && fitAll F (k.take j)) ∧ Below w.heap.size w wr ∧ Nx wr w.heap.size ⟨9, b, neg, dig, exp, u, wd, s⟩ (.slice A k.len c)) (fun _ i _ => k.len - (intOf i).toNat)
  case atStart => exact ⟨0, rfl, Nat.zero_le _, by simp [Fo.take, fitAll], HB.out, HX.out⟩
  case round =>
    obtain ⟨j, rfl, hj, rfl, hb, hbx⟩ := hrel
    have HB3 := Lib.hid hb
    have HX3 := Lib.hid hbx
    have c8 := hbx.c8
    clear hb hbx HB HX
    by_cases hgo : j < k.len
    · obtain ⟨B, o, rfl, hB, _, hLi⟩ := HL.out (by omega)
      obtain ⟨h', k', r, hd⟩ := drop_cons hgo
      have hLj := lies_drop j hLi
      rw [hd] at hLj
      obtain ⟨⟨v', hc', hk'⟩, hu', _⟩ := lies_cons.1 hLj
      obtain ⟨Q, hQ⟩ : ∃ Q, Q = fitAll F (.cons h' k' .nil) := ⟨_, rfl⟩
      have HC : Hid (∀ W, Below w.heap.size w W → Calls Tryz.prog 21 #[.agg (h'.cells v'), .int .i64 3] W (BolP Q W)) := Lib.hid (fun W hW => by rw [hQ]; exact HI.out j h' k' r v' W hd hW hk' hu')
      obtain ⟨P, hP⟩ : ∃ P, P = (true && fitAll F (k.take j)) := ⟨_, rfl⟩
      have HE : Hid ((true && fitAll F (k.take (j + 1))) = (P && Q)) := Lib.hid (by rw [take_app j k hd, fitAll_app, ← Bool.and_assoc, ← hP, hQ])
      rw [← hP]
      obtain ⟨d0, d1, d2, d3, d4, d5, d6, d7, d8⟩ := (hc'.below HB3.out).nine
      clear hLi hLj hc' hk' hd hu' hQ hP
      cases P with
      | true =>
        go_wp2_with fail
        refine (HC.out _ HB3.out).mono ?_
        rintro e w4 ⟨rfl, hb4⟩
        have HB4 := Lib.hid (below_nx HB3.out hb4)
        have HX4 := Lib.hid (HX3.out.below hb4)
        clear hb4 d0 d1 d2 d3 d4 d5 d6 d7 d8 c8
        go_wp2_with fail
        go_roundw
        case rel => exact ⟨j + 1, by go_num, hgo, by rw [HE.out, Bool.true_and], HB4.out, HX4.out⟩
        case measure => simp [intOf]; omega
      | false =>
        clear d0 d1 d2 d3 d4 d5 d6 d7 d8
        go_wp2_with fail
        go_roundw
        case rel => exact ⟨j + 1, by go_num, hgo, by rw [HE.out, Bool.false_and], HB3.out, HX3.out⟩
        case measure => simp [intOf]; omega
    · have HE : Hid (k.take j = k) := Lib.hid (by rw [show j = k.len by omega, take_all])
      go_wp2_with fail
      go_ret
      exact ⟨by rw [HFin.out]; show Ending.returned (Value.bool (true && fitAll F (k.take j))) = _; rw [HE.out], HB3.out⟩
set_option maxRecDepth 100000 in
set_option maxHeartbeats 3000000 in
theorem rFits_9_4 (h : Hd) (k : Fo) (v : Value) (n : Int) (w : World) (hk : Kd An w v k) (hK : h.kind = 9) (hn : n = 4)
    (hI : ∀ (j : Nat) (h' : Hd) (k' r : Fo) (v' : Value) (W : World), k.drop j = .cons h' k' r → Below w.heap.size w W → Kd An w v' k' → h'.u < 18446744073709551616 → Calls Tryz.prog 21 #[.agg (h'.cells v'), .int .i64 n] W (BolP (fitAll (frmOf n) (.cons h' k' .nil)) W)) :
    Calls Tryz.prog 21 #[.agg (h.cells v), .int .i64 n] w (BolP (fitAll (frmOf n) (.cons h k .nil)) w) := by
  obtain ⟨A, c, rfl, hc, hl, hL⟩ := hk.form
  obtain ⟨F, hF⟩ : ∃ F, F = frmOf n := ⟨_, rfl⟩
  have HFin : Hid (fitAll F (.cons h k .nil) = (false && fitAll F k)) := Lib.hid (by
    have e : fitN F h k = false := by
      rw [hF, fitN, hK, hn]
      simp [frmOf, hasB]
    simp [fitAll, e])
  rw [← hF] at hI
  have HI := Lib.hid hI
  have HL := Lib.hid hL
  clear hk hL hI hc
  rw [← hF]
  clear hF
  rcases h with ⟨kd, b, neg, dig, exp, u, wd, s⟩
  obtain rfl : kd = 9 := hK
  have HX := Lib.hid (Nx.new w ⟨9, b, neg, dig, exp, u, wd, s⟩ (.slice A k.len c))
  have HB := Lib.hid (below_a (Below.refl _ w) (.cells ((⟨9, b, neg, dig, exp, u, wd, s⟩ : Hd).cells (.slice A k.len c)) 27))
  subst hn
  simp only [Hd.cells]
  go_enter Tryz.func21, Tryz.ntmps21
  go_wp2_with fail
  go_loopw [5, 12] (fun x i wr => ∃ j : Nat, i = .int .i64 j ∧ j ≤ k.len ∧ x = .bool (false && fitAll F (k.take j)) ∧ Below w.heap.size w wr ∧ Nx wr w.heap.size ⟨9, b, neg, dig, exp, u, wd, s⟩ (.slice A k.len c)) (fun _ i _ => k.len - (intOf i).toNat)
  case atStart => exact ⟨0, rfl, Nat.zero_le _, by simp [Fo.take, fitAll], HB.out, HX.out⟩
  case round =>
    obtain ⟨j, rfl, hj, rfl, hb, hbx⟩ := hrel
    have HB3 := Lib.hid hb
    have HX3 := Lib.hid hbx
    have c8 := hbx.c8
    clear hb hbx HB HX
    by_cases hgo : j < k.len
    · obtain ⟨B, o, rfl, hB, _, hLi⟩ := HL.out (by omega)
      obtain ⟨h', k', r, hd⟩ := drop_cons hgo
      have hLj := lies_drop j hLi
      rw [hd] at hLj
      obtain ⟨⟨v', hc', hk'⟩, hu', _⟩ := lies_cons.1 hLj
      obtain ⟨Q, hQ⟩ : ∃ Q, Q = fitAll F (.cons h' k' .nil) := ⟨_, rfl⟩
      have HC : Hid (∀ W, Below w.heap.size w W → Calls Tryz.prog 21 #[.agg (h'.cells v'), .int .i64 4] W (BolP Q W)) := Lib.hid (fun W hW => by rw [hQ]; exact HI.out j h' k' r v' W hd hW hk' hu')
      obtain ⟨P, hP⟩ : ∃ P, P = (false && fitAll F (k.take j)) := ⟨_, rfl⟩
      have HE : Hid ((false && fitAll F (k.take (j + 1))) = (P && Q)) := Lib.hid (by rw [take_app j k hd, fitAll_app, ← Bool.and_assoc, ← hP, hQ])
      rw [← hP]
      obtain ⟨d0, d1, d2, d3, d4, d5, d6, d7, d8⟩ := (hc'.below HB3.out).nine
      clear hLi hLj hc' hk' hd hu' hQ hP
      cases P with
      | true =>
        go_wp2_with fail
        refine (HC.out _ HB3.out).mono ?_
        rintro e w4 ⟨rfl, hb4⟩
        have HB4 := Lib.hid (below_nx HB3.out hb4)
        have HX4 := Lib.hid (HX3.out.below hb4)
        clear hb4 d0 d1 d2 d3 d4 d5 d6 d7 d8 c8
        go_wp2_with fail
        go_roundw
        case rel => exact ⟨j + 1, by go_num, hgo, by rw [HE.out, Bool.true_and], HB4.out, HX4.out⟩
        case measure => simp [intOf]; omega
      | false =>
        clear d0 d1 d2 d3 d4 d5 d6 d7 d8
        go_wp2_with fail
        go_roundw
        case rel => exact ⟨j + 1, by go_num, hgo, by rw [HE.out, Bool.false_and], HB3.out, HX3.out⟩
        case measure => simp [intOf]; omega
    · have HE : Hid (k.take j = k) := Lib.hid (by rw [show j = k.len by omega, take_all])
      go_wp2_with fail
      go_ret
      exact ⟨by rw [HFin.out]; show Ending.returned (Value.bool (false && fitAll F (k.take j))) = _; rw [HE.out], HB3.out⟩
set_option maxRecDepth 100000 in
set_option maxHeartbeats 3000000 in
theorem rFits_9_lo (h : Hd) (k : Fo) (v : Value) (n : Int) (w : World) (hk : Kd An w v k) (hK : h.kind = 9) (g1 : ¬ (1 : Int) ≤ n)
    (hI : ∀ (j : Nat) (h' : Hd) (k' r : Fo) (v' : Value) (W : World), k.drop j = .cons h' k' r → Below w.heap.size w W → Kd An w v' k' → h'.u < 18446744073709551616 → Calls Tryz.prog 21 #[.agg (h'.cells v'), .int .i64 n] W (BolP (fitAll (frmOf n) (.cons h' k' .nil)) W)) :
    Calls Tryz.prog 21 #[.agg (h.cells v), .int .i64 n] w (BolP (fitAll (frmOf n) (.cons h k .nil)) w) := by
  obtain ⟨A, c, rfl, hc, hl, hL⟩ := hk.form
  obtain ⟨F, hF⟩ : ∃ F, F = frmOf n := ⟨_, rfl⟩
  have HFin : Hid (fitAll F (.cons h k .nil) = (false && fitAll F k)) := Lib.hid (by
    have e : fitN F h k = false := by
      rw [hF, frm_no (by omega), fitN, hasB_0, Bool.false_and]
    simp [fitAll, e])
  rw [← hF] at hI
  have HI := Lib.hid hI
  have HL := Lib.hid hL
  clear hk hL hI hc
  rw [← hF]
  clear hF
  rcases h with ⟨kd, b, neg, dig, exp, u, wd, s⟩
  obtain rfl : kd = 9 := hK
  have HX := Lib.hid (Nx.new w ⟨9, b, neg, dig, exp, u, wd, s⟩ (.slice A k.len c))
  have HB := Lib.hid (below_a (Below.refl _ w) (.cells ((⟨9, b, neg, dig, exp, u, wd, s⟩ : Hd).cells (.slice A k.len c)) 27))
  simp only [Hd.cells]
  go_enter Tryz.func21, Tryz.ntmps21
  go_wp2_with fail
  go_loopw [5, 12] (fun x i wr => ∃ j : Nat, i = .int .i64 j ∧ j ≤ k.len ∧ x = .bool (false && fitAll F (k.take j)) ∧ Below w.heap.size w wr ∧ Nx wr w.heap.size ⟨9, b, neg, dig, exp, u, wd, s⟩ (.slice A k.len c)) (fun _ i _ => k.len - (intOf i).toNat)
  case atStart => exact ⟨0, rfl, Nat.zero_le _, by simp [Fo.take, fitAll], HB.out, HX.out⟩
  case round =>
    obtain ⟨j, rfl, hj, rfl, hb, hbx⟩ := hrel
    have HB3 := Lib.hid hb
    have HX3 := Lib.hid hbx
    have c8 := hbx.c8
    clear hb hbx HB HX
    by_cases hgo : j < k.len
    · obtain ⟨B, o, rfl, hB, _, hLi⟩ := HL.out (by omega)
      obtain ⟨h', k', r, hd⟩ := drop_cons hgo
      have hLj := lies_drop j hLi
      rw [hd] at hLj
      obtain ⟨⟨v', hc', hk'⟩, hu', _⟩ := lies_cons.1 hLj
      obtain ⟨Q, hQ⟩ : ∃ Q, Q = fitAll F (.cons h' k' .nil) := ⟨_, rfl⟩
      have HC : Hid (∀ W, Below w.heap.size w W → Calls Tryz.prog 21 #[.agg (h'.cells v'), .int .i64 n] W (BolP Q W)) := Lib.hid (fun W hW => by rw [hQ]; exact HI.out j h' k' r v' W hd hW hk' hu')
      obtain ⟨P, hP⟩ : ∃ P, P = (false && fitAll F (k.take j)) := ⟨_, rfl⟩
      have HE : Hid ((false && fitAll F (k.take (j + 1))) = (P && Q)) := Lib.hid (by rw [take_app j k hd, fitAll_app, ← Bool.and_assoc, ← hP, hQ])
      rw [← hP]
      obtain ⟨d0, d1, d2, d3, d4, d5, d6, d7, d8⟩ := (hc'.below HB3.out).nine
      clear hLi hLj hc' hk' hd hu' hQ hP
      cases P with
      | true =>
        go_wp2_with fail
        refine (HC.out _ HB3.out).mono ?_
        rintro e w4 ⟨rfl, hb4⟩
        have HB4 := Lib.hid (below_nx HB3.out hb4)
        have HX4 := Lib.hid (HX3.out.below hb4)
        clear hb4 d0 d1 d2 d3 d4 d5 d6 d7 d8 c8
        go_wp2_with fail
        go_roundw
        case rel => exact ⟨j + 1, by go_num, hgo, by rw [HE.out, Bool.true_and], HB4.out, HX4.out⟩
        case measure => simp [intOf]; omega
      | false =>
        clear d0 d1 d2 d3 d4 d5 d6 d7 d8
        go_wp2_with fail
        go_roundw
        case rel => exact ⟨j + 1, by go_num, hgo, by rw [HE.out, Bool.false_and], HB3.out, HX3.out⟩
        case measure => simp [intOf]; omega
    · have HE : Hid (k.take j = k) := Lib.hid (by rw [show j = k.len by omega, take_all])
      go_wp2_with fail
      go_ret
      exact ⟨by rw [HFin.out]; show Ending.returned (Value.bool (false && fitAll F (k.take j))) = _; rw [HE.out], HB3.out⟩
set_option maxRecDepth 100000 in
set_option maxHeartbeats 3000000 in
theorem rFits_9_hi (h : Hd) (k : Fo) (v : Value) (n : Int) (w : World) (hk : Kd An w v k) (hK : h.kind = 9) (g1 : (1 : Int) ≤ n) (g2 : ¬ n ≤ 4)
    (hI : ∀ (j : Nat) (h' : Hd) (k' r : Fo) (v' : Value) (W : World), k.drop j = .cons h' k' r → Below w.heap.size w W → Kd An w v' k' → h'.u < 18446744073709551616 → Calls Tryz.prog 21 #[.agg (h'.cells v'), .int .i64 n] W (BolP (fitAll (frmOf n) (.cons h' k' .nil)) W)) :
    Calls Tryz.prog 21 #[.agg (h.cells v), .int .i64 n] w (BolP (fitAll (frmOf n) (.cons h k .nil)) w) := by
  obtain ⟨A, c, rfl, hc, hl, hL⟩ := hk.form
  obtain ⟨F, hF⟩ : ∃ F, F = frmOf n := ⟨_, rfl⟩
  have HFin : Hid (fitAll F (.cons h k .nil) = (false && fitAll F k)) := Lib.hid (by
    have e : fitN F h k = false := by
      rw [hF, frm_no (by omega), fitN, hasB_0, Bool.false_and]
    simp [fitAll, e])
  rw [← hF] at hI
  have HI := Lib.hid hI
  have HL := Lib.hid hL
  clear hk hL hI hc
  rw [← hF]
  clear hF
  rcases h with ⟨kd, b, neg, dig, exp, u, wd, s⟩
  obtain rfl : kd = 9 := hK
  have HX := Lib.hid (Nx.new w ⟨9, b, neg, dig, exp, u, wd, s⟩ (.slice A k.len c))
  have HB := Lib.hid (below_a (Below.refl _ w) (.cells ((⟨9, b, neg, dig, exp, u, wd, s⟩ : Hd).cells (.slice A k.len c)) 27))
  simp only [Hd.cells]
  go_enter Tryz.func21, Tryz.ntmps21
  go_wp2_with fail
  go_loopw [5, 12] (fun x i wr => ∃ j : Nat, i = .int .i64 j ∧ j ≤ k.len ∧ x = .bool (false && fitAll F (k.take j)) ∧ Below w.heap.size w wr ∧ Nx wr w.heap.size ⟨9, b, neg, dig, exp, u, wd, s⟩ (.slice A k.len c)) (fun _ i _ => k.len - (intOf i).toNat)
  case atStart => exact ⟨0, rfl, Nat.zero_le _, by simp [Fo.take, fitAll], HB.out, HX.out⟩
  case round =>
    obtain ⟨j, rfl, hj, rfl, hb, hbx⟩ := hrel
    have HB3 := Lib.hid hb
    have HX3 := Lib.hid hbx
    have c8 := hbx.c8
    clear hb hbx HB HX
    by_cases hgo : j < k.len
    · obtain ⟨B, o, rfl, hB, _, hLi⟩ := HL.out (by omega)
      obtain ⟨h', k', r, hd⟩ := drop_cons hgo
      have hLj := lies_drop j hLi
      rw [hd] at hLj
      obtain ⟨⟨v', hc', hk'⟩, hu', _⟩ := lies_cons.1 hLj
      obtain ⟨Q, hQ⟩ : ∃ Q, Q = fitAll F (.cons h' k' .nil) := ⟨_, rfl⟩
      have HC : Hid (∀ W, Below w.heap.size w W → Calls Tryz.prog 21 #[.agg (h'.cells v'), .int .i64 n] W (BolP Q W)) := Lib.hid (fun W hW => by rw [hQ]; exact HI.out j h' k' r v' W hd hW hk' hu')
      obtain ⟨P, hP⟩ : ∃ P, P = (false && fitAll F (k.take j)) := ⟨_, rfl⟩
      have HE : Hid ((false && fitAll F (k.take (j + 1))) = (P && Q)) := Lib.hid (by rw [take_app j k hd, fitAll_app, ← Bool.and_assoc, ← hP, hQ])
      rw [← hP]
      obtain ⟨d0, d1, d2, d3, d4, d5, d6, d7, d8⟩ := (hc'.below HB3.out).nine
      clear hLi hLj hc' hk' hd hu' hQ hP
      cases P with
      | true =>
        go_wp2_with fail
        refine (HC.out _ HB3.out).mono ?_
        rintro e w4 ⟨rfl, hb4⟩
        have HB4 := Lib.hid (below_nx HB3.out hb4)
        have HX4 := Lib.hid (HX3.out.below hb4)
        clear hb4 d0 d1 d2 d3 d4 d5 d6 d7 d8 c8
        go_wp2_with fail
        go_roundw
        case rel => exact ⟨j + 1, by go_num, hgo, by rw [HE.out, Bool.true_and], HB4.out, HX4.out⟩
        case measure => simp [intOf]; omega
      | false =>
        clear d0 d1 d2 d3 d4 d5 d6 d7 d8
        go_wp2_with fail
        go_roundw
        case rel => exact ⟨j + 1, by go_num, hgo, by rw [HE.out, Bool.false_and], HB3.out, HX3.out⟩
        case measure => simp [intOf]; omega
    · have HE : Hid (k.take j = k) := Lib.hid (by rw [show j = k.len by omega, take_all])
      go_wp2_with fail
      go_ret
      exact ⟨by rw [HFin.out]; show Ending.returned (Value.bool (false && fitAll F (k.take j))) = _; rw [HE.out], HB3.out⟩
end Go.Proofs.YtomociaidccfmaaGreatDoor

namespace Go.Proofs.YtomociaidccfmaaGreatDoor
open Go.RowKit

set_option maxRecDepth 100000 in
set_option maxHeartbeats 3000000 in
theorem rFits_8_in (h : Hd) (k : Fo) (v : Value) (n : Int) (w : World) (hk : Kd An w v k) (hK : h.kind = 8) (h1 : (1 : Int) ≤ n) (h4 : n ≤ 4) (hfl : k.len < 1353245080301) (hGk : AllG Gk k)
    (hI : ∀ (j : Nat) (h' : Hd) (k' r : Fo) (v' : Value) (W : World), k.drop j = .cons h' k' r → Below w.heap.size w W → Kd An w v' k' → h'.u < 18446744073709551616 → Calls Tryz.prog 21 #[.agg (h'.cells v'), .int .i64 n] W (BolP (fitAll (frmOf n) (.cons h' k' .nil)) W)) :
    Calls Tryz.prog 21 #[.agg (h.cells v), .int .i64 n] w (BolP (fitAll (frmOf n) (.cons h k .nil)) w) := by
  obtain ⟨A, c, rfl, hc, hl, hL⟩ := hk.form
  obtain ⟨F, hF⟩ : ∃ F, F = frmOf n := ⟨_, rfl⟩
  obtain ⟨G, hG⟩ : ∃ G, G = keysF k := ⟨_, rfl⟩
  have HFin0 : Hid (fitAll F (.cons h k .nil) = ((true && kS n G) && fitAll F k)) := Lib.hid (by
    have e : fitN F h k = keyAll F.keys (keysF k) := by
      have hn : n = 1 ∨ n = 2 ∨ n = 3 ∨ n = 4 := by omega
      have eb : hasB F.kinds 8 = true := by rw [hF]; rcases hn with rfl | rfl | rfl | rfl <;> decide
      rw [fitN, hK, eb]
      simp [fitMp]
    have e2 := keys_and (n := n) h1 h4 hGk
    rw [← hF, ← hG] at e2
    rw [fitAll, e, fitAll, Bool.and_true, Bool.true_and, e2, hG])
  have HGl : Hid (G.len = (k.len + 1) / 2) := Lib.hid (by rw [hG, keysF_half])
  have HGa : Hid (∀ (m : Nat) (h' : Hd) (k' r : Fo), k.drop (2 * m) = .cons h' k' r → ∃ r', G.drop m = .cons h' k' r') := Lib.hid (fun m h' k' r e => by rw [hG]; exact keysF_at m k e)
  have HLI := Lib.hid hfl
  clear hG hfl hGk
  rw [← hF] at hI
  have HI := Lib.hid hI
  have HL := Lib.hid hL
  clear hk hL hI hc
  rw [← hF]
  clear hF
  rcases h with ⟨kd, b, neg, dig, exp, u, wd, s⟩
  obtain rfl : kd = 8 := hK
  have HX := Lib.hid (Nx.new w ⟨8, b, neg, dig, exp, u, wd, s⟩ (.slice A k.len c))
  have HB := Lib.hid (below_a (Below.refl _ w) (.cells ((⟨8, b, neg, dig, exp, u, wd, s⟩ : Hd).cells (.slice A k.len c)) 27))
  simp only [Hd.cells]
  go_enter Tryz.func21, Tryz.ntmps21
  go_wp2_with fail
  go_loopw [5, 11] (fun x i wr => ∃ m : Nat, i = .int .i64 ((2 * m : Nat) : Int) ∧ m ≤ G.len ∧ x = .bool (true && kS n (G.take m)) ∧ Below w.heap.size w wr ∧ Nx wr w.heap.size ⟨8, b, neg, dig, exp, u, wd, s⟩ (.slice A k.len c)) (fun _ i _ => k.len + 1 - (intOf i).toNat)
  case atStart => exact ⟨0, rfl, Nat.zero_le _, by simp [Fo.take, kS], HB.out, HX.out⟩
  case round =>
    obtain ⟨m, rfl, hm, rfl, hb, hbx⟩ := hrel
    replace HB := Lib.hid hb
    replace HX := Lib.hid hbx
    have c8 := hbx.c8
    clear hb hbx
    by_cases hgo : m < G.len
    · have hgi : ((2 * m : Nat) : Int) < (k.len : Int) := by have := HGl.out; omega
      obtain ⟨B, o, rfl, hB, _, hLi⟩ := HL.out (by omega)
      obtain ⟨h', k', r, hdr⟩ := drop_cons (f := k) (i := 2 * m) (by omega)
      have hLj := lies_drop (2 * m) hLi
      rw [hdr] at hLj
      obtain ⟨⟨v', hc', hk'⟩, hu', _⟩ := lies_cons.1 hLj
      obtain ⟨A', c', rfl, _, _, _⟩ := hk'.form
      obtain ⟨rG, hdG⟩ := HGa.out m h' k' r hdr
      obtain ⟨Q, hQ⟩ : ∃ Q, Q = keyS n h' := ⟨_, rfl⟩
      have HC : Hid (∀ W, Calls Tryz.prog 39 #[.agg (h'.cells (.slice A' k'.len c')), .int .i64 n] W (BolP Q W)) := Lib.hid (fun W => by rw [hQ]; exact rKey_calls h' A' k'.len c' n W)
      obtain ⟨P, hP⟩ : ∃ P, P = (true && kS n (G.take m)) := ⟨_, rfl⟩
      have HE : Hid ((true && kS n (G.take (m + 1))) = (P && Q)) := Lib.hid (by rw [take_app m G hdG, kS_app, ← Bool.and_assoc, ← hP, hQ]; simp [kS])
      rw [← hP]
      obtain ⟨d0, d1, d2, d3, d4, d5, d6, d7, d8⟩ := (hc'.below HB.out).nine
      have hmb : (m : Int) < 1353245080301 := by have := HLI.out; omega
      obtain ⟨M, hM⟩ : ∃ M : Nat, M = 2 * m := ⟨_, rfl⟩
      rw [← hM] at hgi d0 d1 d2 d3 d4 d5 d6 d7 d8 ⊢
      have HM := Lib.hid hM
      have hMb : (M : Int) < 2706490160602 := by omega
      clear hLi hLj hc' hk' hdr hdG hu' hQ hP hM hmb
      simp only [Hd.cells] at HC
      cases P with
      | true =>
        go_wp2_with fail
        refine (HC.out _).mono ?_
        rintro e w4 ⟨rfl, hb4⟩
        have HB4 := Lib.hid (below_nx HB.out hb4)
        have HX4 := Lib.hid (HX.out.below hb4)
        clear hb4 d0 d1 d2 d3 d4 d5 d6 d7 d8 c8
        go_wp2_with fail
        go_roundw
        case rel => exact ⟨m + 1, by have := HM.out; congr 1 <;> omega, hgo, by rw [HE.out, Bool.true_and], HB4.out, HX4.out⟩
        case measure => have := HM.out; simp [intOf]; omega
      | false =>
        clear d0 d1 d2 d3 d4 d5 d6 d7 d8
        go_wp2_with fail
        go_roundw
        case rel => exact ⟨m + 1, by have := HM.out; congr 1 <;> omega, hgo, by rw [HE.out, Bool.false_and], HB.out, HX.out⟩
        case measure => have := HM.out; simp [intOf]; omega
    · have hgi : ¬ ((2 * m : Nat) : Int) < (k.len : Int) := by have := HGl.out; omega
      have HEnd : Hid (G.take m = G) := Lib.hid (by rw [show m = G.len by omega, take_all])
      rw [HEnd.out]
      obtain ⟨P0, hP0⟩ : ∃ P0, P0 = (true && kS n G) := ⟨_, rfl⟩
      have HFin : Hid (fitAll F (.cons ⟨8, b, neg, dig, exp, u, wd, s⟩ k .nil) = (P0 && fitAll F k)) := Lib.hid (by rw [hP0]; exact HFin0.out)
      rw [← hP0]
      clear hP0
      go_wp2_with fail
      go_loopw [5, 12] (fun x i wr => ∃ j : Nat, i = .int .i64 j ∧ j ≤ k.len ∧ x = .bool (P0 && fitAll F (k.take j)) ∧ Below w.heap.size w wr ∧ Nx wr w.heap.size ⟨8, b, neg, dig, exp, u, wd, s⟩ (.slice A k.len c)) (fun _ i _ => k.len - (intOf i).toNat)
      case atStart => exact ⟨0, rfl, Nat.zero_le _, by simp [Fo.take, fitAll], HB.out, HX.out⟩
      case round =>
        obtain ⟨j, rfl, hj, rfl, hb, hbx⟩ := hrel
        have HB3 := Lib.hid hb
        have HX3 := Lib.hid hbx
        have c8 := hbx.c8
        clear hb hbx HB HX
        by_cases hgo : j < k.len
        · obtain ⟨B, o, rfl, hB, _, hLi⟩ := HL.out (by omega)
          obtain ⟨h', k', r, hd⟩ := drop_cons hgo
          have hLj := lies_drop j hLi
          rw [hd] at hLj
          obtain ⟨⟨v', hc', hk'⟩, hu', _⟩ := lies_cons.1 hLj
          obtain ⟨Q, hQ⟩ : ∃ Q, Q = fitAll F (.cons h' k' .nil) := ⟨_, rfl⟩
          have HC : Hid (∀ W, Below w.heap.size w W → Calls Tryz.prog 21 #[.agg (h'.cells v'), .int .i64 n] W (BolP Q W)) := Lib.hid (fun W hW => by rw [hQ]; exact HI.out j h' k' r v' W hd hW hk' hu')
          obtain ⟨P, hP⟩ : ∃ P, P = (P0 && fitAll F (k.take j)) := ⟨_, rfl⟩
          have HE : Hid ((P0 && fitAll F (k.take (j + 1))) = (P && Q)) := Lib.hid (by rw [take_app j k hd, fitAll_app, ← Bool.and_assoc, ← hP, hQ])
          rw [← hP]
          obtain ⟨d0, d1, d2, d3, d4, d5, d6, d7, d8⟩ := (hc'.below HB3.out).nine
          clear hLi hLj hc' hk' hd hu' hQ hP
          cases P with
          | true =>
            go_wp2_with fail
            refine (HC.out _ HB3.out).mono ?_
            rintro e w4 ⟨rfl, hb4⟩
            have HB4 := Lib.hid (below_nx HB3.out hb4)
            have HX4 := Lib.hid (HX3.out.below hb4)
            clear hb4 d0 d1 d2 d3 d4 d5 d6 d7 d8 c8
            go_wp2_with fail
            go_roundw
            case rel => exact ⟨j + 1, by go_num, hgo, by rw [HE.out, Bool.true_and], HB4.out, HX4.out⟩
            case measure => simp [intOf]; omega
          | false =>
            clear d0 d1 d2 d3 d4 d5 d6 d7 d8
            go_wp2_with fail
            go_roundw
            case rel => exact ⟨j + 1, by go_num, hgo, by rw [HE.out, Bool.false_and], HB3.out, HX3.out⟩
            case measure => simp [intOf]; omega
        · have HE : Hid (k.take j = k) := Lib.hid (by rw [show j = k.len by omega, take_all])
          go_wp2_with fail
          go_ret
          exact ⟨by rw [HFin.out]; show Ending.returned (Value.bool (P0 && fitAll F (k.take j))) = _; rw [HE.out], HB3.out⟩
set_option maxRecDepth 100000 in
set_option maxHeartbeats 3000000 in
theorem rFits_8_lo (h : Hd) (k : Fo) (v : Value) (n : Int) (w : World) (hk : Kd An w v k) (hK : h.kind = 8) (g1 : ¬ (1 : Int) ≤ n) (hfl : k.len < 1353245080301)
    (hI : ∀ (j : Nat) (h' : Hd) (k' r : Fo) (v' : Value) (W : World), k.drop j = .cons h' k' r → Below w.heap.size w W → Kd An w v' k' → h'.u < 18446744073709551616 → Calls Tryz.prog 21 #[.agg (h'.cells v'), .int .i64 n] W (BolP (fitAll (frmOf n) (.cons h' k' .nil)) W)) :
    Calls Tryz.prog 21 #[.agg (h.cells v), .int .i64 n] w (BolP (fitAll (frmOf n) (.cons h k .nil)) w) := by
  obtain ⟨A, c, rfl, hc, hl, hL⟩ := hk.form
  obtain ⟨F, hF⟩ : ∃ F, F = frmOf n := ⟨_, rfl⟩
  obtain ⟨G, hG⟩ : ∃ G, G = keysF k := ⟨_, rfl⟩
  have HFin0 : Hid (fitAll F (.cons h k .nil) = ((false && kS n G) && fitAll F k)) := Lib.hid (by
    have e : fitN F h k = false := by
      rw [hF, frm_no (by omega), fitN, hasB_0, Bool.false_and]
    simp [fitAll, e])
  have HGl : Hid (G.len = (k.len + 1) / 2) := Lib.hid (by rw [hG, keysF_half])
  have HGa : Hid (∀ (m : Nat) (h' : Hd) (k' r : Fo), k.drop (2 * m) = .cons h' k' r → ∃ r', G.drop m = .cons h' k' r') := Lib.hid (fun m h' k' r e => by rw [hG]; exact keysF_at m k e)
  have HLI := Lib.hid hfl
  clear hG hfl
  rw [← hF] at hI
  have HI := Lib.hid hI
  have HL := Lib.hid hL
  clear hk hL hI hc
  rw [← hF]
  clear hF
  rcases h with ⟨kd, b, neg, dig, exp, u, wd, s⟩
  obtain rfl : kd = 8 := hK
  have HX := Lib.hid (Nx.new w ⟨8, b, neg, dig, exp, u, wd, s⟩ (.slice A k.len c))
  have HB := Lib.hid (below_a (Below.refl _ w) (.cells ((⟨8, b, neg, dig, exp, u, wd, s⟩ : Hd).cells (.slice A k.len c)) 27))
  simp only [Hd.cells]
  go_enter Tryz.func21, Tryz.ntmps21
  go_wp2_with fail
  go_loopw [5, 11] (fun x i wr => ∃ m : Nat, i = .int .i64 ((2 * m : Nat) : Int) ∧ m ≤ G.len ∧ x = .bool (false && kS n (G.take m)) ∧ Below w.heap.size w wr ∧ Nx wr w.heap.size ⟨8, b, neg, dig, exp, u, wd, s⟩ (.slice A k.len c)) (fun _ i _ => k.len + 1 - (intOf i).toNat)
  case atStart => exact ⟨0, rfl, Nat.zero_le _, by simp [Fo.take, kS], HB.out, HX.out⟩
  case round =>
    obtain ⟨m, rfl, hm, rfl, hb, hbx⟩ := hrel
    replace HB := Lib.hid hb
    replace HX := Lib.hid hbx
    have c8 := hbx.c8
    clear hb hbx
    by_cases hgo : m < G.len
    · have hgi : ((2 * m : Nat) : Int) < (k.len : Int) := by have := HGl.out; omega
      obtain ⟨B, o, rfl, hB, _, hLi⟩ := HL.out (by omega)
      obtain ⟨h', k', r, hdr⟩ := drop_cons (f := k) (i := 2 * m) (by omega)
      have hLj := lies_drop (2 * m) hLi
      rw [hdr] at hLj
      obtain ⟨⟨v', hc', hk'⟩, hu', _⟩ := lies_cons.1 hLj
      obtain ⟨A', c', rfl, _, _, _⟩ := hk'.form
      obtain ⟨rG, hdG⟩ := HGa.out m h' k' r hdr
      obtain ⟨Q, hQ⟩ : ∃ Q, Q = keyS n h' := ⟨_, rfl⟩
      have HC : Hid (∀ W, Calls Tryz.prog 39 #[.agg (h'.cells (.slice A' k'.len c')), .int .i64 n] W (BolP Q W)) := Lib.hid (fun W => by rw [hQ]; exact rKey_calls h' A' k'.len c' n W)
      obtain ⟨P, hP⟩ : ∃ P, P = (false && kS n (G.take m)) := ⟨_, rfl⟩
      have HE : Hid ((false && kS n (G.take (m + 1))) = (P && Q)) := Lib.hid (by rw [take_app m G hdG, kS_app, ← Bool.and_assoc, ← hP, hQ]; simp [kS])
      rw [← hP]
      obtain ⟨d0, d1, d2, d3, d4, d5, d6, d7, d8⟩ := (hc'.below HB.out).nine
      have hmb : (m : Int) < 1353245080301 := by have := HLI.out; omega
      obtain ⟨M, hM⟩ : ∃ M : Nat, M = 2 * m := ⟨_, rfl⟩
      rw [← hM] at hgi d0 d1 d2 d3 d4 d5 d6 d7 d8 ⊢
      have HM := Lib.hid hM
      have hMb : (M : Int) < 2706490160602 := by omega
      clear hLi hLj hc' hk' hdr hdG hu' hQ hP hM hmb
      simp only [Hd.cells] at HC
      cases P with
      | true =>
        go_wp2_with fail
        refine (HC.out _).mono ?_
        rintro e w4 ⟨rfl, hb4⟩
        have HB4 := Lib.hid (below_nx HB.out hb4)
        have HX4 := Lib.hid (HX.out.below hb4)
        clear hb4 d0 d1 d2 d3 d4 d5 d6 d7 d8 c8
        go_wp2_with fail
        go_roundw
        case rel => exact ⟨m + 1, by have := HM.out; congr 1 <;> omega, hgo, by rw [HE.out, Bool.true_and], HB4.out, HX4.out⟩
        case measure => have := HM.out; simp [intOf]; omega
      | false =>
        clear d0 d1 d2 d3 d4 d5 d6 d7 d8
        go_wp2_with fail
        go_roundw
        case rel => exact ⟨m + 1, by have := HM.out; congr 1 <;> omega, hgo, by rw [HE.out, Bool.false_and], HB.out, HX.out⟩
        case measure => have := HM.out; simp [intOf]; omega
    · have hgi : ¬ ((2 * m : Nat) : Int) < (k.len : Int) := by have := HGl.out; omega
      have HEnd : Hid (G.take m = G) := Lib.hid (by rw [show m = G.len by omega, take_all])
      rw [HEnd.out]
      obtain ⟨P0, hP0⟩ : ∃ P0, P0 = (false && kS n G) := ⟨_, rfl⟩
      have HFin : Hid (fitAll F (.cons ⟨8, b, neg, dig, exp, u, wd, s⟩ k .nil) = (P0 && fitAll F k)) := Lib.hid (by rw [hP0]; exact HFin0.out)
      rw [← hP0]
      clear hP0
      go_wp2_with fail
      go_loopw [5, 12] (fun x i wr => ∃ j : Nat, i = .int .i64 j ∧ j ≤ k.len ∧ x = .bool (P0 && fitAll F (k.take j)) ∧ Below w.heap.size w wr ∧ Nx wr w.heap.size ⟨8, b, neg, dig, exp, u, wd, s⟩ (.slice A k.len c)) (fun _ i _ => k.len - (intOf i).toNat)
      case atStart => exact ⟨0, rfl, Nat.zero_le _, by simp [Fo.take, fitAll], HB.out, HX.out⟩
      case round =>
        obtain ⟨j, rfl, hj, rfl, hb, hbx⟩ := hrel
        have HB3 := Lib.hid hb
        have HX3 := Lib.hid hbx
        have c8 := hbx.c8
        clear hb hbx HB HX
        by_cases hgo : j < k.len
        · obtain ⟨B, o, rfl, hB, _, hLi⟩ := HL.out (by omega)
          obtain ⟨h', k', r, hd⟩ := drop_cons hgo
          have hLj := lies_drop j hLi
          rw [hd] at hLj
          obtain ⟨⟨v', hc', hk'⟩, hu', _⟩ := lies_cons.1 hLj
          obtain ⟨Q, hQ⟩ : ∃ Q, Q = fitAll F (.cons h' k' .nil) := ⟨_, rfl⟩
          have HC : Hid (∀ W, Below w.heap.size w W → Calls Tryz.prog 21 #[.agg (h'.cells v'), .int .i64 n] W (BolP Q W)) := Lib.hid (fun W hW => by rw [hQ]; exact HI.out j h' k' r v' W hd hW hk' hu')
          obtain ⟨P, hP⟩ : ∃ P, P = (P0 && fitAll F (k.take j)) := ⟨_, rfl⟩
          have HE : Hid ((P0 && fitAll F (k.take (j + 1))) = (P && Q)) := Lib.hid (by rw [take_app j k hd, fitAll_app, ← Bool.and_assoc, ← hP, hQ])
          rw [← hP]
          obtain ⟨d0, d1, d2, d3, d4, d5, d6, d7, d8⟩ := (hc'.below HB3.out).nine
          clear hLi hLj hc' hk' hd hu' hQ hP
          cases P with
          | true =>
            go_wp2_with fail
            refine (HC.out _ HB3.out).mono ?_
            rintro e w4 ⟨rfl, hb4⟩
            have HB4 := Lib.hid (below_nx HB3.out hb4)
            have HX4 := Lib.hid (HX3.out.below hb4)
            clear hb4 d0 d1 d2 d3 d4 d5 d6 d7 d8 c8
            go_wp2_with fail
            go_roundw
            case rel => exact ⟨j + 1, by go_num, hgo, by rw [HE.out, Bool.true_and], HB4.out, HX4.out⟩
            case measure => simp [intOf]; omega
          | false =>
            clear d0 d1 d2 d3 d4 d5 d6 d7 d8
            go_wp2_with fail
            go_roundw
            case rel => exact ⟨j + 1, by go_num, hgo, by rw [HE.out, Bool.false_and], HB3.out, HX3.out⟩
            case measure => simp [intOf]; omega
        · have HE : Hid (k.take j = k) := Lib.hid (by rw [show j = k.len by omega, take_all])
          go_wp2_with fail
          go_ret
          exact ⟨by rw [HFin.out]; show Ending.returned (Value.bool (P0 && fitAll F (k.take j))) = _; rw [HE.out], HB3.out⟩
set_option maxRecDepth 100000 in
set_option maxHeartbeats 3000000 in
theorem rFits_8_hi (h : Hd) (k : Fo) (v : Value) (n : Int) (w : World) (hk : Kd An w v k) (hK : h.kind = 8) (g1 : (1 : Int) ≤ n) (g2 : ¬ n ≤ 4) (hfl : k.len < 1353245080301)
    (hI : ∀ (j : Nat) (h' : Hd) (k' r : Fo) (v' : Value) (W : World), k.drop j = .cons h' k' r → Below w.heap.size w W → Kd An w v' k' → h'.u < 18446744073709551616 → Calls Tryz.prog 21 #[.agg (h'.cells v'), .int .i64 n] W (BolP (fitAll (frmOf n) (.cons h' k' .nil)) W)) :
    Calls Tryz.prog 21 #[.agg (h.cells v), .int .i64 n] w (BolP (fitAll (frmOf n) (.cons h k .nil)) w) := by
  obtain ⟨A, c, rfl, hc, hl, hL⟩ := hk.form
  obtain ⟨F, hF⟩ : ∃ F, F = frmOf n := ⟨_, rfl⟩
  obtain ⟨G, hG⟩ : ∃ G, G = keysF k := ⟨_, rfl⟩
  have HFin0 : Hid (fitAll F (.cons h k .nil) = ((false && kS n G) && fitAll F k)) := Lib.hid (by
    have e : fitN F h k = false := by
      rw [hF, frm_no (by omega), fitN, hasB_0, Bool.false_and]
    simp [fitAll, e])
  have HGl : Hid (G.len = (k.len + 1) / 2) := Lib.hid (by rw [hG, keysF_half])
  have HGa : Hid (∀ (m : Nat) (h' : Hd) (k' r : Fo), k.drop (2 * m) = .cons h' k' r → ∃ r', G.drop m = .cons h' k' r') := Lib.hid (fun m h' k' r e => by rw [hG]; exact keysF_at m k e)
  have HLI := Lib.hid hfl
  clear hG hfl
  rw [← hF] at hI
  have HI := Lib.hid hI
  have HL := Lib.hid hL
  clear hk hL hI hc
  rw [← hF]
  clear hF
  rcases h with ⟨kd, b, neg, dig, exp, u, wd, s⟩
  obtain rfl : kd = 8 := hK
  have HX := Lib.hid (Nx.new w ⟨8, b, neg, dig, exp, u, wd, s⟩ (.slice A k.len c))
  have HB := Lib.hid (below_a (Below.refl _ w) (.cells ((⟨8, b, neg, dig, exp, u, wd, s⟩ : Hd).cells (.slice A k.len c)) 27))
  simp only [Hd.cells]
  go_enter Tryz.func21, Tryz.ntmps21
  go_wp2_with fail
  go_loopw [5, 11] (fun x i wr => ∃ m : Nat, i = .int .i64 ((2 * m : Nat) : Int) ∧ m ≤ G.len ∧ x = .bool (false && kS n (G.take m)) ∧ Below w.heap.size w wr ∧ Nx wr w.heap.size ⟨8, b, neg, dig, exp, u, wd, s⟩ (.slice A k.len c)) (fun _ i _ => k.len + 1 - (intOf i).toNat)
  case atStart => exact ⟨0, rfl, Nat.zero_le _, by simp [Fo.take, kS], HB.out, HX.out⟩
  case round =>
    obtain ⟨m, rfl, hm, rfl, hb, hbx⟩ := hrel
    replace HB := Lib.hid hb
    replace HX := Lib.hid hbx
    have c8 := hbx.c8
    clear hb hbx
    by_cases hgo : m < G.len
    · have hgi : ((2 * m : Nat) : Int) < (k.len : Int) := by have := HGl.out; omega
      obtain ⟨B, o, rfl, hB, _, hLi⟩ := HL.out (by omega)
      obtain ⟨h', k', r, hdr⟩ := drop_cons (f := k) (i := 2 * m) (by omega)
      have hLj := lies_drop (2 * m) hLi
      rw [hdr] at hLj
      obtain ⟨⟨v', hc', hk'⟩, hu', _⟩ := lies_cons.1 hLj
      obtain ⟨A', c', rfl, _, _, _⟩ := hk'.form
      obtain ⟨rG, hdG⟩ := HGa.out m h' k' r hdr
      obtain ⟨Q, hQ⟩ : ∃ Q, Q = keyS n h' := ⟨_, rfl⟩
      have HC : Hid (∀ W, Calls Tryz.prog 39 #[.agg (h'.cells (.slice A' k'.len c')), .int .i64 n] W (BolP Q W)) := Lib.hid (fun W => by rw [hQ]; exact rKey_calls h' A' k'.len c' n W)
      obtain ⟨P, hP⟩ : ∃ P, P = (false && kS n (G.take m)) := ⟨_, rfl⟩
      have HE : Hid ((false && kS n (G.take (m + 1))) = (P && Q)) := Lib.hid (by rw [take_app m G hdG, kS_app, ← Bool.and_assoc, ← hP, hQ]; simp [kS])
      rw [← hP]
      obtain ⟨d0, d1, d2, d3, d4, d5, d6, d7, d8⟩ := (hc'.below HB.out).nine
      have hmb : (m : Int) < 1353245080301 := by have := HLI.out; omega
      obtain ⟨M, hM⟩ : ∃ M : Nat, M = 2 * m := ⟨_, rfl⟩
      rw [← hM] at hgi d0 d1 d2 d3 d4 d5 d6 d7 d8 ⊢
      have HM := Lib.hid hM
      have hMb : (M : Int) < 2706490160602 := by omega
      clear hLi hLj hc' hk' hdr hdG hu' hQ hP hM hmb
      simp only [Hd.cells] at HC
      cases P with
      | true =>
        go_wp2_with fail
        refine (HC.out _).mono ?_
        rintro e w4 ⟨rfl, hb4⟩
        have HB4 := Lib.hid (below_nx HB.out hb4)
        have HX4 := Lib.hid (HX.out.below hb4)
        clear hb4 d0 d1 d2 d3 d4 d5 d6 d7 d8 c8
        go_wp2_with fail
        go_roundw
        case rel => exact ⟨m + 1, by have := HM.out; congr 1 <;> omega, hgo, by rw [HE.out, Bool.true_and], HB4.out, HX4.out⟩
        case measure => have := HM.out; simp [intOf]; omega
      | false =>
        clear d0 d1 d2 d3 d4 d5 d6 d7 d8
        go_wp2_with fail
        go_roundw
        case rel => exact ⟨m + 1, by have := HM.out; congr 1 <;> omega, hgo, by rw [HE.out, Bool.false_and], HB.out, HX.out⟩
        case measure => have := HM.out; simp [intOf]; omega
    · have hgi : ¬ ((2 * m : Nat) : Int) < (k.len : Int) := by have := HGl.out; omega
      have HEnd : Hid (G.take m = G) := Lib.hid (by rw [show m = G.len by omega, take_all])
      rw [HEnd.out]
      obtain ⟨P0, hP0⟩ : ∃ P0, P0 = (false && kS n G) := ⟨_, rfl⟩
      have HFin : Hid (fitAll F (.cons ⟨8, b, neg, dig, exp, u, wd, s⟩ k .nil) = (P0 && fitAll F k)) := Lib.hid (by rw [hP0]; exact HFin0.out)
      rw [← hP0]
      clear hP0
      go_wp2_with fail
      go_loopw [5, 12] (fun x i wr => ∃ j : Nat, i = .int .i64 j ∧ j ≤ k.len ∧ x = .bool (P0 && fitAll F (k.take j)) ∧ Below w.heap.size w wr ∧ Nx wr w.heap.size ⟨8, b, neg, dig, exp, u, wd, s⟩ (.slice A k.len c)) (fun _ i _ => k.len - (intOf i).toNat)
      case atStart => exact ⟨0, rfl, Nat.zero_le _, by simp [Fo.take, fitAll], HB.out, HX.out⟩
      case round =>
        obtain ⟨j, rfl, hj, rfl, hb, hbx⟩ := hrel
        have HB3 := Lib.hid hb
        have HX3 := Lib.hid hbx
        have c8 := hbx.c8
        clear hb hbx HB HX
        by_cases hgo : j < k.len
        · obtain ⟨B, o, rfl, hB, _, hLi⟩ := HL.out (by omega)
          obtain ⟨h', k', r, hd⟩ := drop_cons hgo
          have hLj := lies_drop j hLi
          rw [hd] at hLj
          obtain ⟨⟨v', hc', hk'⟩, hu', _⟩ := lies_cons.1 hLj
          obtain ⟨Q, hQ⟩ : ∃ Q, Q = fitAll F (.cons h' k' .nil) := ⟨_, rfl⟩
          have HC : Hid (∀ W, Below w.heap.size w W → Calls Tryz.prog 21 #[.agg (h'.cells v'), .int .i64 n] W (BolP Q W)) := Lib.hid (fun W hW => by rw [hQ]; exact HI.out j h' k' r v' W hd hW hk' hu')
          obtain ⟨P, hP⟩ : ∃ P, P = (P0 && fitAll F (k.take j)) := ⟨_, rfl⟩
          have HE : Hid ((P0 && fitAll F (k.take (j + 1))) = (P && Q)) := Lib.hid (by rw [take_app j k hd, fitAll_app, ← Bool.and_assoc, ← hP, hQ])
          rw [← hP]
          obtain ⟨d0, d1, d2, d3, d4, d5, d6, d7, d8⟩ := (hc'.below HB3.out).nine
          clear hLi hLj hc' hk' hd hu' hQ hP
          cases P with
          | true =>
            go_wp2_with fail
            refine (HC.out _ HB3.out).mono ?_
            rintro e w4 ⟨rfl, hb4⟩
            have HB4 := Lib.hid (below_nx HB3.out hb4)
            have HX4 := Lib.hid (HX3.out.below hb4)
            clear hb4 d0 d1 d2 d3 d4 d5 d6 d7 d8 c8
            go_wp2_with fail
            go_roundw
            case rel => exact ⟨j + 1, by go_num, hgo, by rw [HE.out, Bool.true_and], HB4.out, HX4.out⟩
            case measure => simp [intOf]; omega
          | false =>
            clear d0 d1 d2 d3 d4 d5 d6 d7 d8
            go_wp2_with fail
            go_roundw
            case rel => exact ⟨j + 1, by go_num, hgo, by rw [HE.out, Bool.false_and], HB3.out, HX3.out⟩
            case measure => simp [intOf]; omega
        · have HE : Hid (k.take j = k) := Lib.hid (by rw [show j = k.len by omega, take_all])
          go_wp2_with fail
          go_ret
          exact ⟨by rw [HFin.out]; show Ending.returned (Value.bool (P0 && fitAll F (k.take j))) = _; rw [HE.out], HB3.out⟩
end Go.Proofs.YtomociaidccfmaaGreatDoor
