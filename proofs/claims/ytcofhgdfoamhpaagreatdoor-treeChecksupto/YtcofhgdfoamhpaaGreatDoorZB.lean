/- The document's own: First of texts. -/
import Derived.Test.YtcofhgdfoamhpaaGreatDoorZM
import Derived.LoopN
namespace Go.Proofs.YtcofhgdfoamhpaaGreatDoor
open Go.RowKit

theorem and31 : ∀ b : Nat, b < 256 → bits BinOp.and IntKind.i64 (b : Int) 31 = ((b % 32 : Nat) : Int) := by decide +kernel
theorem and15 : ∀ b : Nat, b < 32 → bits BinOp.and IntKind.i64 (b : Int) 15 = ((b % 16 : Nat) : Int) := by decide +kernel
theorem and7 : ∀ b : Nat, b < 16 → bits BinOp.and IntKind.i64 (b : Int) 7 = ((b % 8 : Nat) : Int) := by decide +kernel
theorem and192 : ∀ b : Nat, b < 256 → bits BinOp.and IntKind.u8 (b : Int) 192 = ((b / 64 * 64 : Nat) : Int) := by decide +kernel
theorem and63 : ∀ b : Nat, b < 256 → bits BinOp.and IntKind.u8 (b : Int) 63 = ((b % 64 : Nat) : Int) := by decide +kernel
theorem wS {a : Nat} (h : a < 1000000000) : wrap64 (a : Int) = (a : Int) := by unfold wrap64; omega
theorem wM {a : Nat} (h : a < 1000000000) : wrap64 (64 * (a : Int)) = 64 * (a : Int) := by unfold wrap64; omega
def FirP (n : Int) (w : World) (o : Ending) (w' : World) : Prop := (∃ c, o = .returned (.tuple #[.int .i64 c, .int .i64 n])) ∧ w' = w
set_option maxRecDepth 100000 in
set_option maxHeartbeats 1000000 in
theorem fir_ascii (T : ByteArray) (w : World) (b0 : Nat) (s0 : 0 < T.size) (e0 : T[0].toNat = b0) (w0 : wrap64 (b0 : Int) = (b0 : Int)) (q1 : ¬ (128 : Int) ≤ (b0 : Int)) (q2 : ¬ (T.size : Int) < 1) (x0 : decide ((b0 : Int) < 0) = false) (x1 : decide ((1114111 : Int) < (b0 : Int)) = false) (x2 : decide ((55296 : Int) ≤ (b0 : Int)) = false) : Calls Tryz.prog 92 #[.string T] w (FirP 1 w) := by
  go_enter Tryz.func92, Tryz.ntmps92
  go_wp2_with fail
  refine wp_loop_rounds 1 ?_
  rw [rounds_succ]
  go_wp2_with fail
  go_ret2
  exact ⟨⟨_, rfl⟩, rfl⟩
set_option maxRecDepth 100000 in
set_option maxHeartbeats 1000000 in
theorem fir_low (T : ByteArray) (w : World) (b0 : Nat) (s0 : 0 < T.size) (e0 : T[0].toNat = b0) (w0 : wrap64 (b0 : Int) = (b0 : Int)) (q1 : (128 : Int) ≤ (b0 : Int)) (q2 : (b0 : Int) < 194) : Calls Tryz.prog 92 #[.string T] w (FirP 0 w) := by
  go_enter Tryz.func92, Tryz.ntmps92
  go_wp2_with fail
  go_ret2
  exact ⟨⟨_, rfl⟩, rfl⟩
set_option maxRecDepth 100000 in
set_option maxHeartbeats 1000000 in
theorem fir_high (T : ByteArray) (w : World) (b0 : Nat) (s0 : 0 < T.size) (e0 : T[0].toNat = b0) (w0 : wrap64 (b0 : Int) = (b0 : Int)) (q1 : (128 : Int) ≤ (b0 : Int)) (q2 : ¬ (b0 : Int) < 194) (q3 : (244 : Int) < (b0 : Int)) : Calls Tryz.prog 92 #[.string T] w (FirP 0 w) := by
  go_enter Tryz.func92, Tryz.ntmps92
  go_wp2_with fail
  go_ret2
  exact ⟨⟨_, rfl⟩, rfl⟩
set_option maxRecDepth 100000 in
set_option maxHeartbeats 1000000 in
theorem fir_2_size (T : ByteArray) (w : World) (b0 c1 : Nat) (s0 : 0 < T.size) (e0 : T[0].toNat = b0) (w0 : wrap64 (b0 : Int) = (b0 : Int)) (q1 : (128 : Int) ≤ (b0 : Int)) (q2 : ¬ (b0 : Int) < 194) (q3 : ¬ (244 : Int) < (b0 : Int)) (q4 : ¬ (224 : Int) ≤ (b0 : Int)) (q5 : ¬ (240 : Int) ≤ (b0 : Int)) (a31 : bits BinOp.and IntKind.i64 (b0 : Int) 31 = (c1 : Int)) (q6 : (T.size : Int) < 2) : Calls Tryz.prog 92 #[.string T] w (FirP 0 w) := by
  go_enter Tryz.func92, Tryz.ntmps92
  go_wp2_with fail
  go_ret2
  exact ⟨⟨_, rfl⟩, rfl⟩
set_option maxRecDepth 100000 in
set_option maxHeartbeats 1000000 in
theorem fir_2_1 (T : ByteArray) (w : World) (b0 b1 c1 g1 : Nat) (s0 : 0 < T.size) (e0 : T[0].toNat = b0) (s1 : 1 < T.size) (e1 : T[1].toNat = b1) (j1 : (1 : Int) < (T.size : Int)) (w0 : wrap64 (b0 : Int) = (b0 : Int)) (q1 : (128 : Int) ≤ (b0 : Int)) (q2 : ¬ (b0 : Int) < 194) (q3 : ¬ (244 : Int) < (b0 : Int)) (q4 : ¬ (224 : Int) ≤ (b0 : Int)) (q5 : ¬ (240 : Int) ≤ (b0 : Int)) (a31 : bits BinOp.and IntKind.i64 (b0 : Int) 31 = (c1 : Int)) (q6 : ¬ (T.size : Int) < 2) (a1 : bits BinOp.and IntKind.u8 (b1 : Int) 192 = (g1 : Int)) (z1 : ¬ (g1 : Int) = 128) : Calls Tryz.prog 92 #[.string T] w (FirP 0 w) := by
  go_enter Tryz.func92, Tryz.ntmps92
  go_wp2_with fail
  refine wp_loop_rounds 1 ?_
  rw [rounds_succ]
  go_wp2_with fail
  go_ret2
  exact ⟨⟨_, rfl⟩, rfl⟩
set_option maxRecDepth 100000 in
set_option maxHeartbeats 1000000 in
theorem fir_2_under (T : ByteArray) (w : World) (b0 b1 c1 p1 C1 : Nat) (s0 : 0 < T.size) (e0 : T[0].toNat = b0) (s1 : 1 < T.size) (e1 : T[1].toNat = b1) (j1 : (1 : Int) < (T.size : Int)) (w0 : wrap64 (b0 : Int) = (b0 : Int)) (q1 : (128 : Int) ≤ (b0 : Int)) (q2 : ¬ (b0 : Int) < 194) (q3 : ¬ (244 : Int) < (b0 : Int)) (q4 : ¬ (224 : Int) ≤ (b0 : Int)) (q5 : ¬ (240 : Int) ≤ (b0 : Int)) (a31 : bits BinOp.and IntKind.i64 (b0 : Int) 31 = (c1 : Int)) (q6 : ¬ (T.size : Int) < 2) (a1 : bits BinOp.and IntKind.u8 (b1 : Int) 192 = 128) (f1 : bits BinOp.and IntKind.u8 (b1 : Int) 63 = (p1 : Int)) (u1 : wrap64 (p1 : Int) = (p1 : Int)) (v1 : (64 : Int) * (c1 : Int) + (p1 : Int) = (C1 : Int)) (m1 : wrap64 ((64 : Int) * (c1 : Int)) = (64 : Int) * (c1 : Int)) (t1 : wrap64 (C1 : Int) = (C1 : Int)) (x0 : decide ((C1 : Int) < 128) = false) (x1 : decide ((1114111 : Int) < (C1 : Int)) = false) (x2 : decide ((55296 : Int) ≤ (C1 : Int)) = false) : Calls Tryz.prog 92 #[.string T] w (FirP 2 w) := by
  go_enter Tryz.func92, Tryz.ntmps92
  go_wp2_with fail
  refine wp_loop_rounds 2 ?_
  rw [rounds_succ]
  go_wp2_with fail
  rw [rounds_succ]
  go_wp2_with fail
  go_ret2
  exact ⟨⟨_, rfl⟩, rfl⟩
set_option maxRecDepth 100000 in
set_option maxHeartbeats 1000000 in
theorem fir_3_size (T : ByteArray) (w : World) (b0 c1 c2 : Nat) (s0 : 0 < T.size) (e0 : T[0].toNat = b0) (w0 : wrap64 (b0 : Int) = (b0 : Int)) (q1 : (128 : Int) ≤ (b0 : Int)) (q2 : ¬ (b0 : Int) < 194) (q3 : ¬ (244 : Int) < (b0 : Int)) (q4 : (224 : Int) ≤ (b0 : Int)) (q5 : ¬ (240 : Int) ≤ (b0 : Int)) (a31 : bits BinOp.and IntKind.i64 (b0 : Int) 31 = (c1 : Int)) (a15 : bits BinOp.and IntKind.i64 (c1 : Int) 15 = (c2 : Int)) (q6 : (T.size : Int) < 3) : Calls Tryz.prog 92 #[.string T] w (FirP 0 w) := by
  go_enter Tryz.func92, Tryz.ntmps92
  go_wp2_with fail
  go_ret2
  exact ⟨⟨_, rfl⟩, rfl⟩
set_option maxRecDepth 100000 in
set_option maxHeartbeats 1000000 in
theorem fir_3_1 (T : ByteArray) (w : World) (b0 b1 c1 c2 g1 : Nat) (s0 : 0 < T.size) (e0 : T[0].toNat = b0) (s1 : 1 < T.size) (e1 : T[1].toNat = b1) (j1 : (1 : Int) < (T.size : Int)) (w0 : wrap64 (b0 : Int) = (b0 : Int)) (q1 : (128 : Int) ≤ (b0 : Int)) (q2 : ¬ (b0 : Int) < 194) (q3 : ¬ (244 : Int) < (b0 : Int)) (q4 : (224 : Int) ≤ (b0 : Int)) (q5 : ¬ (240 : Int) ≤ (b0 : Int)) (a31 : bits BinOp.and IntKind.i64 (b0 : Int) 31 = (c1 : Int)) (a15 : bits BinOp.and IntKind.i64 (c1 : Int) 15 = (c2 : Int)) (q6 : ¬ (T.size : Int) < 3) (a1 : bits BinOp.and IntKind.u8 (b1 : Int) 192 = (g1 : Int)) (z1 : ¬ (g1 : Int) = 128) : Calls Tryz.prog 92 #[.string T] w (FirP 0 w) := by
  go_enter Tryz.func92, Tryz.ntmps92
  go_wp2_with fail
  refine wp_loop_rounds 1 ?_
  rw [rounds_succ]
  go_wp2_with fail
  go_ret2
  exact ⟨⟨_, rfl⟩, rfl⟩
set_option maxRecDepth 100000 in
set_option maxHeartbeats 1000000 in
theorem fir_3_2 (T : ByteArray) (w : World) (b0 b1 b2 c1 c2 p1 C1 g2 : Nat) (s0 : 0 < T.size) (e0 : T[0].toNat = b0) (s1 : 1 < T.size) (e1 : T[1].toNat = b1) (j1 : (1 : Int) < (T.size : Int)) (s2 : 2 < T.size) (e2 : T[2].toNat = b2) (j2 : (2 : Int) < (T.size : Int)) (w0 : wrap64 (b0 : Int) = (b0 : Int)) (q1 : (128 : Int) ≤ (b0 : Int)) (q2 : ¬ (b0 : Int) < 194) (q3 : ¬ (244 : Int) < (b0 : Int)) (q4 : (224 : Int) ≤ (b0 : Int)) (q5 : ¬ (240 : Int) ≤ (b0 : Int)) (a31 : bits BinOp.and IntKind.i64 (b0 : Int) 31 = (c1 : Int)) (a15 : bits BinOp.and IntKind.i64 (c1 : Int) 15 = (c2 : Int)) (q6 : ¬ (T.size : Int) < 3) (a1 : bits BinOp.and IntKind.u8 (b1 : Int) 192 = 128) (f1 : bits BinOp.and IntKind.u8 (b1 : Int) 63 = (p1 : Int)) (u1 : wrap64 (p1 : Int) = (p1 : Int)) (v1 : (64 : Int) * (c2 : Int) + (p1 : Int) = (C1 : Int)) (m1 : wrap64 ((64 : Int) * (c2 : Int)) = (64 : Int) * (c2 : Int)) (_t1 : wrap64 (C1 : Int) = (C1 : Int)) (a2 : bits BinOp.and IntKind.u8 (b2 : Int) 192 = (g2 : Int)) (z2 : ¬ (g2 : Int) = 128) : Calls Tryz.prog 92 #[.string T] w (FirP 0 w) := by
  go_enter Tryz.func92, Tryz.ntmps92
  go_wp2_with fail
  refine wp_loop_rounds 2 ?_
  rw [rounds_succ]
  go_wp2_with fail
  rw [rounds_succ]
  go_wp2_with fail
  go_ret2
  exact ⟨⟨_, rfl⟩, rfl⟩
set_option maxRecDepth 100000 in
set_option maxHeartbeats 1000000 in
theorem fir_3_least (T : ByteArray) (w : World) (b0 b1 b2 c1 c2 p1 C1 p2 C2 : Nat) (s0 : 0 < T.size) (e0 : T[0].toNat = b0) (s1 : 1 < T.size) (e1 : T[1].toNat = b1) (j1 : (1 : Int) < (T.size : Int)) (s2 : 2 < T.size) (e2 : T[2].toNat = b2) (j2 : (2 : Int) < (T.size : Int)) (w0 : wrap64 (b0 : Int) = (b0 : Int)) (q1 : (128 : Int) ≤ (b0 : Int)) (q2 : ¬ (b0 : Int) < 194) (q3 : ¬ (244 : Int) < (b0 : Int)) (q4 : (224 : Int) ≤ (b0 : Int)) (q5 : ¬ (240 : Int) ≤ (b0 : Int)) (a31 : bits BinOp.and IntKind.i64 (b0 : Int) 31 = (c1 : Int)) (a15 : bits BinOp.and IntKind.i64 (c1 : Int) 15 = (c2 : Int)) (q6 : ¬ (T.size : Int) < 3) (a1 : bits BinOp.and IntKind.u8 (b1 : Int) 192 = 128) (f1 : bits BinOp.and IntKind.u8 (b1 : Int) 63 = (p1 : Int)) (u1 : wrap64 (p1 : Int) = (p1 : Int)) (v1 : (64 : Int) * (c2 : Int) + (p1 : Int) = (C1 : Int)) (m1 : wrap64 ((64 : Int) * (c2 : Int)) = (64 : Int) * (c2 : Int)) (t1 : wrap64 (C1 : Int) = (C1 : Int)) (a2 : bits BinOp.and IntKind.u8 (b2 : Int) 192 = 128) (f2 : bits BinOp.and IntKind.u8 (b2 : Int) 63 = (p2 : Int)) (u2 : wrap64 (p2 : Int) = (p2 : Int)) (v2 : (64 : Int) * (C1 : Int) + (p2 : Int) = (C2 : Int)) (m2 : wrap64 ((64 : Int) * (C1 : Int)) = (64 : Int) * (C1 : Int)) (t2 : wrap64 (C2 : Int) = (C2 : Int)) (x0 : decide ((C2 : Int) < 2048) = true) : Calls Tryz.prog 92 #[.string T] w (FirP 0 w) := by
  go_enter Tryz.func92, Tryz.ntmps92
  go_wp2_with fail
  refine wp_loop_rounds 3 ?_
  rw [rounds_succ]
  go_wp2_with fail
  rw [rounds_succ]
  go_wp2_with fail
  rw [rounds_succ]
  go_wp2_with fail
  go_ret2
  exact ⟨⟨_, rfl⟩, rfl⟩
set_option maxRecDepth 100000 in
set_option maxHeartbeats 1000000 in
theorem fir_3_half (T : ByteArray) (w : World) (b0 b1 b2 c1 c2 p1 C1 p2 C2 : Nat) (s0 : 0 < T.size) (e0 : T[0].toNat = b0) (s1 : 1 < T.size) (e1 : T[1].toNat = b1) (j1 : (1 : Int) < (T.size : Int)) (s2 : 2 < T.size) (e2 : T[2].toNat = b2) (j2 : (2 : Int) < (T.size : Int)) (w0 : wrap64 (b0 : Int) = (b0 : Int)) (q1 : (128 : Int) ≤ (b0 : Int)) (q2 : ¬ (b0 : Int) < 194) (q3 : ¬ (244 : Int) < (b0 : Int)) (q4 : (224 : Int) ≤ (b0 : Int)) (q5 : ¬ (240 : Int) ≤ (b0 : Int)) (a31 : bits BinOp.and IntKind.i64 (b0 : Int) 31 = (c1 : Int)) (a15 : bits BinOp.and IntKind.i64 (c1 : Int) 15 = (c2 : Int)) (q6 : ¬ (T.size : Int) < 3) (a1 : bits BinOp.and IntKind.u8 (b1 : Int) 192 = 128) (f1 : bits BinOp.and IntKind.u8 (b1 : Int) 63 = (p1 : Int)) (u1 : wrap64 (p1 : Int) = (p1 : Int)) (v1 : (64 : Int) * (c2 : Int) + (p1 : Int) = (C1 : Int)) (m1 : wrap64 ((64 : Int) * (c2 : Int)) = (64 : Int) * (c2 : Int)) (t1 : wrap64 (C1 : Int) = (C1 : Int)) (a2 : bits BinOp.and IntKind.u8 (b2 : Int) 192 = 128) (f2 : bits BinOp.and IntKind.u8 (b2 : Int) 63 = (p2 : Int)) (u2 : wrap64 (p2 : Int) = (p2 : Int)) (v2 : (64 : Int) * (C1 : Int) + (p2 : Int) = (C2 : Int)) (m2 : wrap64 ((64 : Int) * (C1 : Int)) = (64 : Int) * (C1 : Int)) (t2 : wrap64 (C2 : Int) = (C2 : Int)) (x0 : decide ((C2 : Int) < 2048) = false) (x1 : decide ((1114111 : Int) < (C2 : Int)) = false) (x2 : decide ((55296 : Int) ≤ (C2 : Int)) = true) (x3 : decide ((C2 : Int) ≤ 57343) = true) : Calls Tryz.prog 92 #[.string T] w (FirP 0 w) := by
  go_enter Tryz.func92, Tryz.ntmps92
  go_wp2_with fail
  refine wp_loop_rounds 3 ?_
  rw [rounds_succ]
  go_wp2_with fail
  rw [rounds_succ]
  go_wp2_with fail
  rw [rounds_succ]
  go_wp2_with fail
  go_ret2
  exact ⟨⟨_, rfl⟩, rfl⟩
set_option maxRecDepth 100000 in
set_option maxHeartbeats 1000000 in
theorem fir_3_under (T : ByteArray) (w : World) (b0 b1 b2 c1 c2 p1 C1 p2 C2 : Nat) (s0 : 0 < T.size) (e0 : T[0].toNat = b0) (s1 : 1 < T.size) (e1 : T[1].toNat = b1) (j1 : (1 : Int) < (T.size : Int)) (s2 : 2 < T.size) (e2 : T[2].toNat = b2) (j2 : (2 : Int) < (T.size : Int)) (w0 : wrap64 (b0 : Int) = (b0 : Int)) (q1 : (128 : Int) ≤ (b0 : Int)) (q2 : ¬ (b0 : Int) < 194) (q3 : ¬ (244 : Int) < (b0 : Int)) (q4 : (224 : Int) ≤ (b0 : Int)) (q5 : ¬ (240 : Int) ≤ (b0 : Int)) (a31 : bits BinOp.and IntKind.i64 (b0 : Int) 31 = (c1 : Int)) (a15 : bits BinOp.and IntKind.i64 (c1 : Int) 15 = (c2 : Int)) (q6 : ¬ (T.size : Int) < 3) (a1 : bits BinOp.and IntKind.u8 (b1 : Int) 192 = 128) (f1 : bits BinOp.and IntKind.u8 (b1 : Int) 63 = (p1 : Int)) (u1 : wrap64 (p1 : Int) = (p1 : Int)) (v1 : (64 : Int) * (c2 : Int) + (p1 : Int) = (C1 : Int)) (m1 : wrap64 ((64 : Int) * (c2 : Int)) = (64 : Int) * (c2 : Int)) (t1 : wrap64 (C1 : Int) = (C1 : Int)) (a2 : bits BinOp.and IntKind.u8 (b2 : Int) 192 = 128) (f2 : bits BinOp.and IntKind.u8 (b2 : Int) 63 = (p2 : Int)) (u2 : wrap64 (p2 : Int) = (p2 : Int)) (v2 : (64 : Int) * (C1 : Int) + (p2 : Int) = (C2 : Int)) (m2 : wrap64 ((64 : Int) * (C1 : Int)) = (64 : Int) * (C1 : Int)) (t2 : wrap64 (C2 : Int) = (C2 : Int)) (x0 : decide ((C2 : Int) < 2048) = false) (x1 : decide ((1114111 : Int) < (C2 : Int)) = false) (x2 : decide ((55296 : Int) ≤ (C2 : Int)) = false) : Calls Tryz.prog 92 #[.string T] w (FirP 3 w) := by
  go_enter Tryz.func92, Tryz.ntmps92
  go_wp2_with fail
  refine wp_loop_rounds 3 ?_
  rw [rounds_succ]
  go_wp2_with fail
  rw [rounds_succ]
  go_wp2_with fail
  rw [rounds_succ]
  go_wp2_with fail
  go_ret2
  exact ⟨⟨_, rfl⟩, rfl⟩
set_option maxRecDepth 100000 in
set_option maxHeartbeats 1000000 in
theorem fir_3_over (T : ByteArray) (w : World) (b0 b1 b2 c1 c2 p1 C1 p2 C2 : Nat) (s0 : 0 < T.size) (e0 : T[0].toNat = b0) (s1 : 1 < T.size) (e1 : T[1].toNat = b1) (j1 : (1 : Int) < (T.size : Int)) (s2 : 2 < T.size) (e2 : T[2].toNat = b2) (j2 : (2 : Int) < (T.size : Int)) (w0 : wrap64 (b0 : Int) = (b0 : Int)) (q1 : (128 : Int) ≤ (b0 : Int)) (q2 : ¬ (b0 : Int) < 194) (q3 : ¬ (244 : Int) < (b0 : Int)) (q4 : (224 : Int) ≤ (b0 : Int)) (q5 : ¬ (240 : Int) ≤ (b0 : Int)) (a31 : bits BinOp.and IntKind.i64 (b0 : Int) 31 = (c1 : Int)) (a15 : bits BinOp.and IntKind.i64 (c1 : Int) 15 = (c2 : Int)) (q6 : ¬ (T.size : Int) < 3) (a1 : bits BinOp.and IntKind.u8 (b1 : Int) 192 = 128) (f1 : bits BinOp.and IntKind.u8 (b1 : Int) 63 = (p1 : Int)) (u1 : wrap64 (p1 : Int) = (p1 : Int)) (v1 : (64 : Int) * (c2 : Int) + (p1 : Int) = (C1 : Int)) (m1 : wrap64 ((64 : Int) * (c2 : Int)) = (64 : Int) * (c2 : Int)) (t1 : wrap64 (C1 : Int) = (C1 : Int)) (a2 : bits BinOp.and IntKind.u8 (b2 : Int) 192 = 128) (f2 : bits BinOp.and IntKind.u8 (b2 : Int) 63 = (p2 : Int)) (u2 : wrap64 (p2 : Int) = (p2 : Int)) (v2 : (64 : Int) * (C1 : Int) + (p2 : Int) = (C2 : Int)) (m2 : wrap64 ((64 : Int) * (C1 : Int)) = (64 : Int) * (C1 : Int)) (t2 : wrap64 (C2 : Int) = (C2 : Int)) (x0 : decide ((C2 : Int) < 2048) = false) (x1 : decide ((1114111 : Int) < (C2 : Int)) = false) (x2 : decide ((55296 : Int) ≤ (C2 : Int)) = true) (x3 : decide ((C2 : Int) ≤ 57343) = false) : Calls Tryz.prog 92 #[.string T] w (FirP 3 w) := by
  go_enter Tryz.func92, Tryz.ntmps92
  go_wp2_with fail
  refine wp_loop_rounds 3 ?_
  rw [rounds_succ]
  go_wp2_with fail
  rw [rounds_succ]
  go_wp2_with fail
  rw [rounds_succ]
  go_wp2_with fail
  go_ret2
  exact ⟨⟨_, rfl⟩, rfl⟩
set_option maxRecDepth 100000 in
set_option maxHeartbeats 1000000 in
theorem fir_4_size (T : ByteArray) (w : World) (b0 c1 c2 c3 : Nat) (s0 : 0 < T.size) (e0 : T[0].toNat = b0) (w0 : wrap64 (b0 : Int) = (b0 : Int)) (q1 : (128 : Int) ≤ (b0 : Int)) (q2 : ¬ (b0 : Int) < 194) (q3 : ¬ (244 : Int) < (b0 : Int)) (q4 : (224 : Int) ≤ (b0 : Int)) (q5 : (240 : Int) ≤ (b0 : Int)) (a31 : bits BinOp.and IntKind.i64 (b0 : Int) 31 = (c1 : Int)) (a15 : bits BinOp.and IntKind.i64 (c1 : Int) 15 = (c2 : Int)) (a7 : bits BinOp.and IntKind.i64 (c2 : Int) 7 = (c3 : Int)) (q6 : (T.size : Int) < 4) : Calls Tryz.prog 92 #[.string T] w (FirP 0 w) := by
  go_enter Tryz.func92, Tryz.ntmps92
  go_wp2_with fail
  go_ret2
  exact ⟨⟨_, rfl⟩, rfl⟩
set_option maxRecDepth 100000 in
set_option maxHeartbeats 1000000 in
theorem fir_4_1 (T : ByteArray) (w : World) (b0 b1 c1 c2 c3 g1 : Nat) (s0 : 0 < T.size) (e0 : T[0].toNat = b0) (s1 : 1 < T.size) (e1 : T[1].toNat = b1) (j1 : (1 : Int) < (T.size : Int)) (w0 : wrap64 (b0 : Int) = (b0 : Int)) (q1 : (128 : Int) ≤ (b0 : Int)) (q2 : ¬ (b0 : Int) < 194) (q3 : ¬ (244 : Int) < (b0 : Int)) (q4 : (224 : Int) ≤ (b0 : Int)) (q5 : (240 : Int) ≤ (b0 : Int)) (a31 : bits BinOp.and IntKind.i64 (b0 : Int) 31 = (c1 : Int)) (a15 : bits BinOp.and IntKind.i64 (c1 : Int) 15 = (c2 : Int)) (a7 : bits BinOp.and IntKind.i64 (c2 : Int) 7 = (c3 : Int)) (q6 : ¬ (T.size : Int) < 4) (a1 : bits BinOp.and IntKind.u8 (b1 : Int) 192 = (g1 : Int)) (z1 : ¬ (g1 : Int) = 128) : Calls Tryz.prog 92 #[.string T] w (FirP 0 w) := by
  go_enter Tryz.func92, Tryz.ntmps92
  go_wp2_with fail
  refine wp_loop_rounds 1 ?_
  rw [rounds_succ]
  go_wp2_with fail
  go_ret2
  exact ⟨⟨_, rfl⟩, rfl⟩
set_option maxRecDepth 100000 in
set_option maxHeartbeats 1000000 in
theorem fir_4_2 (T : ByteArray) (w : World) (b0 b1 b2 c1 c2 c3 p1 C1 g2 : Nat) (s0 : 0 < T.size) (e0 : T[0].toNat = b0) (s1 : 1 < T.size) (e1 : T[1].toNat = b1) (j1 : (1 : Int) < (T.size : Int)) (s2 : 2 < T.size) (e2 : T[2].toNat = b2) (j2 : (2 : Int) < (T.size : Int)) (w0 : wrap64 (b0 : Int) = (b0 : Int)) (q1 : (128 : Int) ≤ (b0 : Int)) (q2 : ¬ (b0 : Int) < 194) (q3 : ¬ (244 : Int) < (b0 : Int)) (q4 : (224 : Int) ≤ (b0 : Int)) (q5 : (240 : Int) ≤ (b0 : Int)) (a31 : bits BinOp.and IntKind.i64 (b0 : Int) 31 = (c1 : Int)) (a15 : bits BinOp.and IntKind.i64 (c1 : Int) 15 = (c2 : Int)) (a7 : bits BinOp.and IntKind.i64 (c2 : Int) 7 = (c3 : Int)) (q6 : ¬ (T.size : Int) < 4) (a1 : bits BinOp.and IntKind.u8 (b1 : Int) 192 = 128) (f1 : bits BinOp.and IntKind.u8 (b1 : Int) 63 = (p1 : Int)) (u1 : wrap64 (p1 : Int) = (p1 : Int)) (v1 : (64 : Int) * (c3 : Int) + (p1 : Int) = (C1 : Int)) (m1 : wrap64 ((64 : Int) * (c3 : Int)) = (64 : Int) * (c3 : Int)) (_t1 : wrap64 (C1 : Int) = (C1 : Int)) (a2 : bits BinOp.and IntKind.u8 (b2 : Int) 192 = (g2 : Int)) (z2 : ¬ (g2 : Int) = 128) : Calls Tryz.prog 92 #[.string T] w (FirP 0 w) := by
  go_enter Tryz.func92, Tryz.ntmps92
  go_wp2_with fail
  refine wp_loop_rounds 2 ?_
  rw [rounds_succ]
  go_wp2_with fail
  rw [rounds_succ]
  go_wp2_with fail
  go_ret2
  exact ⟨⟨_, rfl⟩, rfl⟩
set_option maxRecDepth 100000 in
set_option maxHeartbeats 1000000 in
theorem fir_4_3 (T : ByteArray) (w : World) (b0 b1 b2 b3 c1 c2 c3 p1 C1 p2 C2 g3 : Nat) (s0 : 0 < T.size) (e0 : T[0].toNat = b0) (s1 : 1 < T.size) (e1 : T[1].toNat = b1) (j1 : (1 : Int) < (T.size : Int)) (s2 : 2 < T.size) (e2 : T[2].toNat = b2) (j2 : (2 : Int) < (T.size : Int)) (s3 : 3 < T.size) (e3 : T[3].toNat = b3) (j3 : (3 : Int) < (T.size : Int)) (w0 : wrap64 (b0 : Int) = (b0 : Int)) (q1 : (128 : Int) ≤ (b0 : Int)) (q2 : ¬ (b0 : Int) < 194) (q3 : ¬ (244 : Int) < (b0 : Int)) (q4 : (224 : Int) ≤ (b0 : Int)) (q5 : (240 : Int) ≤ (b0 : Int)) (a31 : bits BinOp.and IntKind.i64 (b0 : Int) 31 = (c1 : Int)) (a15 : bits BinOp.and IntKind.i64 (c1 : Int) 15 = (c2 : Int)) (a7 : bits BinOp.and IntKind.i64 (c2 : Int) 7 = (c3 : Int)) (q6 : ¬ (T.size : Int) < 4) (a1 : bits BinOp.and IntKind.u8 (b1 : Int) 192 = 128) (f1 : bits BinOp.and IntKind.u8 (b1 : Int) 63 = (p1 : Int)) (u1 : wrap64 (p1 : Int) = (p1 : Int)) (v1 : (64 : Int) * (c3 : Int) + (p1 : Int) = (C1 : Int)) (m1 : wrap64 ((64 : Int) * (c3 : Int)) = (64 : Int) * (c3 : Int)) (t1 : wrap64 (C1 : Int) = (C1 : Int)) (a2 : bits BinOp.and IntKind.u8 (b2 : Int) 192 = 128) (f2 : bits BinOp.and IntKind.u8 (b2 : Int) 63 = (p2 : Int)) (u2 : wrap64 (p2 : Int) = (p2 : Int)) (v2 : (64 : Int) * (C1 : Int) + (p2 : Int) = (C2 : Int)) (m2 : wrap64 ((64 : Int) * (C1 : Int)) = (64 : Int) * (C1 : Int)) (_t2 : wrap64 (C2 : Int) = (C2 : Int)) (a3 : bits BinOp.and IntKind.u8 (b3 : Int) 192 = (g3 : Int)) (z3 : ¬ (g3 : Int) = 128) : Calls Tryz.prog 92 #[.string T] w (FirP 0 w) := by
  go_enter Tryz.func92, Tryz.ntmps92
  go_wp2_with fail
  refine wp_loop_rounds 3 ?_
  rw [rounds_succ]
  go_wp2_with fail
  rw [rounds_succ]
  go_wp2_with fail
  rw [rounds_succ]
  go_wp2_with fail
  go_ret2
  exact ⟨⟨_, rfl⟩, rfl⟩
set_option maxRecDepth 100000 in
set_option maxHeartbeats 1000000 in
theorem fir_4_least (T : ByteArray) (w : World) (b0 b1 b2 b3 c1 c2 c3 p1 C1 p2 C2 p3 C3 : Nat) (s0 : 0 < T.size) (e0 : T[0].toNat = b0) (s1 : 1 < T.size) (e1 : T[1].toNat = b1) (j1 : (1 : Int) < (T.size : Int)) (s2 : 2 < T.size) (e2 : T[2].toNat = b2) (j2 : (2 : Int) < (T.size : Int)) (s3 : 3 < T.size) (e3 : T[3].toNat = b3) (j3 : (3 : Int) < (T.size : Int)) (w0 : wrap64 (b0 : Int) = (b0 : Int)) (q1 : (128 : Int) ≤ (b0 : Int)) (q2 : ¬ (b0 : Int) < 194) (q3 : ¬ (244 : Int) < (b0 : Int)) (q4 : (224 : Int) ≤ (b0 : Int)) (q5 : (240 : Int) ≤ (b0 : Int)) (a31 : bits BinOp.and IntKind.i64 (b0 : Int) 31 = (c1 : Int)) (a15 : bits BinOp.and IntKind.i64 (c1 : Int) 15 = (c2 : Int)) (a7 : bits BinOp.and IntKind.i64 (c2 : Int) 7 = (c3 : Int)) (q6 : ¬ (T.size : Int) < 4) (a1 : bits BinOp.and IntKind.u8 (b1 : Int) 192 = 128) (f1 : bits BinOp.and IntKind.u8 (b1 : Int) 63 = (p1 : Int)) (u1 : wrap64 (p1 : Int) = (p1 : Int)) (v1 : (64 : Int) * (c3 : Int) + (p1 : Int) = (C1 : Int)) (m1 : wrap64 ((64 : Int) * (c3 : Int)) = (64 : Int) * (c3 : Int)) (t1 : wrap64 (C1 : Int) = (C1 : Int)) (a2 : bits BinOp.and IntKind.u8 (b2 : Int) 192 = 128) (f2 : bits BinOp.and IntKind.u8 (b2 : Int) 63 = (p2 : Int)) (u2 : wrap64 (p2 : Int) = (p2 : Int)) (v2 : (64 : Int) * (C1 : Int) + (p2 : Int) = (C2 : Int)) (m2 : wrap64 ((64 : Int) * (C1 : Int)) = (64 : Int) * (C1 : Int)) (t2 : wrap64 (C2 : Int) = (C2 : Int)) (a3 : bits BinOp.and IntKind.u8 (b3 : Int) 192 = 128) (f3 : bits BinOp.and IntKind.u8 (b3 : Int) 63 = (p3 : Int)) (u3 : wrap64 (p3 : Int) = (p3 : Int)) (v3 : (64 : Int) * (C2 : Int) + (p3 : Int) = (C3 : Int)) (m3 : wrap64 ((64 : Int) * (C2 : Int)) = (64 : Int) * (C2 : Int)) (t3 : wrap64 (C3 : Int) = (C3 : Int)) (x0 : decide ((C3 : Int) < 65536) = true) : Calls Tryz.prog 92 #[.string T] w (FirP 0 w) := by
  go_enter Tryz.func92, Tryz.ntmps92
  go_wp2_with fail
  refine wp_loop_rounds 4 ?_
  rw [rounds_succ]
  go_wp2_with fail
  rw [rounds_succ]
  go_wp2_with fail
  rw [rounds_succ]
  go_wp2_with fail
  rw [rounds_succ]
  go_wp2_with fail
  go_ret2
  exact ⟨⟨_, rfl⟩, rfl⟩
set_option maxRecDepth 100000 in
set_option maxHeartbeats 1000000 in
theorem fir_4_most (T : ByteArray) (w : World) (b0 b1 b2 b3 c1 c2 c3 p1 C1 p2 C2 p3 C3 : Nat) (s0 : 0 < T.size) (e0 : T[0].toNat = b0) (s1 : 1 < T.size) (e1 : T[1].toNat = b1) (j1 : (1 : Int) < (T.size : Int)) (s2 : 2 < T.size) (e2 : T[2].toNat = b2) (j2 : (2 : Int) < (T.size : Int)) (s3 : 3 < T.size) (e3 : T[3].toNat = b3) (j3 : (3 : Int) < (T.size : Int)) (w0 : wrap64 (b0 : Int) = (b0 : Int)) (q1 : (128 : Int) ≤ (b0 : Int)) (q2 : ¬ (b0 : Int) < 194) (q3 : ¬ (244 : Int) < (b0 : Int)) (q4 : (224 : Int) ≤ (b0 : Int)) (q5 : (240 : Int) ≤ (b0 : Int)) (a31 : bits BinOp.and IntKind.i64 (b0 : Int) 31 = (c1 : Int)) (a15 : bits BinOp.and IntKind.i64 (c1 : Int) 15 = (c2 : Int)) (a7 : bits BinOp.and IntKind.i64 (c2 : Int) 7 = (c3 : Int)) (q6 : ¬ (T.size : Int) < 4) (a1 : bits BinOp.and IntKind.u8 (b1 : Int) 192 = 128) (f1 : bits BinOp.and IntKind.u8 (b1 : Int) 63 = (p1 : Int)) (u1 : wrap64 (p1 : Int) = (p1 : Int)) (v1 : (64 : Int) * (c3 : Int) + (p1 : Int) = (C1 : Int)) (m1 : wrap64 ((64 : Int) * (c3 : Int)) = (64 : Int) * (c3 : Int)) (t1 : wrap64 (C1 : Int) = (C1 : Int)) (a2 : bits BinOp.and IntKind.u8 (b2 : Int) 192 = 128) (f2 : bits BinOp.and IntKind.u8 (b2 : Int) 63 = (p2 : Int)) (u2 : wrap64 (p2 : Int) = (p2 : Int)) (v2 : (64 : Int) * (C1 : Int) + (p2 : Int) = (C2 : Int)) (m2 : wrap64 ((64 : Int) * (C1 : Int)) = (64 : Int) * (C1 : Int)) (t2 : wrap64 (C2 : Int) = (C2 : Int)) (a3 : bits BinOp.and IntKind.u8 (b3 : Int) 192 = 128) (f3 : bits BinOp.and IntKind.u8 (b3 : Int) 63 = (p3 : Int)) (u3 : wrap64 (p3 : Int) = (p3 : Int)) (v3 : (64 : Int) * (C2 : Int) + (p3 : Int) = (C3 : Int)) (m3 : wrap64 ((64 : Int) * (C2 : Int)) = (64 : Int) * (C2 : Int)) (t3 : wrap64 (C3 : Int) = (C3 : Int)) (x0 : decide ((C3 : Int) < 65536) = false) (x1 : decide ((1114111 : Int) < (C3 : Int)) = true) : Calls Tryz.prog 92 #[.string T] w (FirP 0 w) := by
  go_enter Tryz.func92, Tryz.ntmps92
  go_wp2_with fail
  refine wp_loop_rounds 4 ?_
  rw [rounds_succ]
  go_wp2_with fail
  rw [rounds_succ]
  go_wp2_with fail
  rw [rounds_succ]
  go_wp2_with fail
  rw [rounds_succ]
  go_wp2_with fail
  go_ret2
  exact ⟨⟨_, rfl⟩, rfl⟩
set_option maxRecDepth 100000 in
set_option maxHeartbeats 1000000 in
theorem fir_4_over (T : ByteArray) (w : World) (b0 b1 b2 b3 c1 c2 c3 p1 C1 p2 C2 p3 C3 : Nat) (s0 : 0 < T.size) (e0 : T[0].toNat = b0) (s1 : 1 < T.size) (e1 : T[1].toNat = b1) (j1 : (1 : Int) < (T.size : Int)) (s2 : 2 < T.size) (e2 : T[2].toNat = b2) (j2 : (2 : Int) < (T.size : Int)) (s3 : 3 < T.size) (e3 : T[3].toNat = b3) (j3 : (3 : Int) < (T.size : Int)) (w0 : wrap64 (b0 : Int) = (b0 : Int)) (q1 : (128 : Int) ≤ (b0 : Int)) (q2 : ¬ (b0 : Int) < 194) (q3 : ¬ (244 : Int) < (b0 : Int)) (q4 : (224 : Int) ≤ (b0 : Int)) (q5 : (240 : Int) ≤ (b0 : Int)) (a31 : bits BinOp.and IntKind.i64 (b0 : Int) 31 = (c1 : Int)) (a15 : bits BinOp.and IntKind.i64 (c1 : Int) 15 = (c2 : Int)) (a7 : bits BinOp.and IntKind.i64 (c2 : Int) 7 = (c3 : Int)) (q6 : ¬ (T.size : Int) < 4) (a1 : bits BinOp.and IntKind.u8 (b1 : Int) 192 = 128) (f1 : bits BinOp.and IntKind.u8 (b1 : Int) 63 = (p1 : Int)) (u1 : wrap64 (p1 : Int) = (p1 : Int)) (v1 : (64 : Int) * (c3 : Int) + (p1 : Int) = (C1 : Int)) (m1 : wrap64 ((64 : Int) * (c3 : Int)) = (64 : Int) * (c3 : Int)) (t1 : wrap64 (C1 : Int) = (C1 : Int)) (a2 : bits BinOp.and IntKind.u8 (b2 : Int) 192 = 128) (f2 : bits BinOp.and IntKind.u8 (b2 : Int) 63 = (p2 : Int)) (u2 : wrap64 (p2 : Int) = (p2 : Int)) (v2 : (64 : Int) * (C1 : Int) + (p2 : Int) = (C2 : Int)) (m2 : wrap64 ((64 : Int) * (C1 : Int)) = (64 : Int) * (C1 : Int)) (t2 : wrap64 (C2 : Int) = (C2 : Int)) (a3 : bits BinOp.and IntKind.u8 (b3 : Int) 192 = 128) (f3 : bits BinOp.and IntKind.u8 (b3 : Int) 63 = (p3 : Int)) (u3 : wrap64 (p3 : Int) = (p3 : Int)) (v3 : (64 : Int) * (C2 : Int) + (p3 : Int) = (C3 : Int)) (m3 : wrap64 ((64 : Int) * (C2 : Int)) = (64 : Int) * (C2 : Int)) (t3 : wrap64 (C3 : Int) = (C3 : Int)) (x0 : decide ((C3 : Int) < 65536) = false) (x1 : decide ((1114111 : Int) < (C3 : Int)) = false) (x2 : decide ((55296 : Int) ≤ (C3 : Int)) = true) (x3 : decide ((C3 : Int) ≤ 57343) = false) : Calls Tryz.prog 92 #[.string T] w (FirP 4 w) := by
  go_enter Tryz.func92, Tryz.ntmps92
  go_wp2_with fail
  refine wp_loop_rounds 4 ?_
  rw [rounds_succ]
  go_wp2_with fail
  rw [rounds_succ]
  go_wp2_with fail
  rw [rounds_succ]
  go_wp2_with fail
  rw [rounds_succ]
  go_wp2_with fail
  go_ret2
  exact ⟨⟨_, rfl⟩, rfl⟩
end Go.Proofs.YtcofhgdfoamhpaaGreatDoor
