/- Characters: how many bytes the first one has. The document's own: First of texts. The document's own: First and Right of texts, by the characters decoded. The document's own: Right of texts. -/
import Derived.Test.YtomociaidccfmaaGreatDoorMo
import Derived.LoopN

namespace Go.Proofs.YtomociaidccfmaaGreatDoor
open Go.RowKit

def dec1 (z b0 b1 b2 b3 : Nat) : Nat × Nat :=
  if b0 < 128 then (b0, 1)
  else if b0 / 32 == 6 && (decide (1 < z) && b1 / 64 == 2) then
    if (b0 % 32) * 64 + b1 % 64 ≥ 128 then ((b0 % 32) * 64 + b1 % 64, 2) else (65533, 1)
  else if b0 / 16 == 14 && (decide (1 < z) && b1 / 64 == 2) && (decide (2 < z) && b2 / 64 == 2) then
    if decide ((b0 % 16) * 4096 + (b1 % 64) * 64 + b2 % 64 ≥ 2048) && Utf8.valid (((b0 % 16) * 4096 + (b1 % 64) * 64 + b2 % 64 : Nat) : Int) then ((b0 % 16) * 4096 + (b1 % 64) * 64 + b2 % 64, 3) else (65533, 1)
  else if b0 / 8 == 30 && (decide (1 < z) && b1 / 64 == 2) && (decide (2 < z) && b2 / 64 == 2) && (decide (3 < z) && b3 / 64 == 2) then
    if decide ((b0 % 8) * 262144 + (b1 % 64) * 4096 + (b2 % 64) * 64 + b3 % 64 ≥ 65536) && Utf8.valid (((b0 % 8) * 262144 + (b1 % 64) * 4096 + (b2 % 64) * 64 + b3 % 64 : Nat) : Int) then ((b0 % 8) * 262144 + (b1 % 64) * 4096 + (b2 % 64) * 64 + b3 % 64, 4) else (65533, 1)
  else (65533, 1)
theorem decode_dec1 (T : ByteArray) : Utf8.decode T 0 = dec1 T.size (T.get! 0).toNat (T.get! 1).toNat (T.get! 2).toNat (T.get! 3).toNat := by
  simp only [Utf8.decode, dec1, Nat.zero_add, Utf8.runeError]
def rp (z b0 b1 b2 : Nat) : Bool := decide (3 ≤ z ∧ b0 = 239 ∧ b1 = 191 ∧ b2 = 189)
def firM (z b0 b1 b2 b3 : Nat) : Nat := if decide ((dec1 z b0 b1 b2 b3).1 = 65533) && !rp z b0 b1 b2 then 0 else (dec1 z b0 b1 b2 b3).2
theorem fm_err {z b0 b1 b2 b3 : Nat} (h : dec1 z b0 b1 b2 b3 = (65533, 1)) (hr : rp z b0 b1 b2 = false) : firM z b0 b1 b2 b3 = 0 := by rw [firM, h, hr]; rfl
theorem fm_ok {z b0 b1 b2 b3 c n : Nat} (h : dec1 z b0 b1 b2 b3 = (c, n)) (hr : c = 65533 → rp z b0 b1 b2 = true) : firM z b0 b1 b2 b3 = n := by
  rw [firM, h]
  by_cases hc : c = 65533
  · rw [hr hc]; simp
  · simp [hc]
theorem rp_no {z b0 b1 b2 : Nat} (h : b0 ≠ 239) : rp z b0 b1 b2 = false := decide_eq_false (fun e => h e.2.1)
theorem fm_ascii {z b0 b1 b2 b3 : Nat} (h : b0 < 128) : firM z b0 b1 b2 b3 = 1 := fm_ok (c := b0) (by rw [dec1, if_pos h]) (fun e => by omega)
theorem fm_low {z b0 b1 b2 b3 : Nat} (h : 128 ≤ b0) (h2 : b0 < 194) : firM z b0 b1 b2 b3 = 0 := by
  refine fm_err ?_ (rp_no (by omega))
  have e1 : (b0 / 16 == 14) = false := beq_eq_false_iff_ne.2 (by omega)
  have e2 : (b0 / 8 == 30) = false := beq_eq_false_iff_ne.2 (by omega)
  rw [dec1, if_neg (by omega), e1, e2]
  simp only [Bool.false_and, Bool.false_eq_true, if_false]
  split
  · rename_i h3
    rw [Bool.and_eq_true, beq_iff_eq] at h3
    rw [if_neg (by omega)]
  · rfl
theorem valid_no {c : Nat} (h : 55296 ≤ c ∧ c ≤ 57343 ∨ 1114111 < c) : Utf8.valid (c : Int) = false := by
  simp only [Utf8.valid, Bool.or_eq_false_iff, Bool.and_eq_false_iff, decide_eq_false_iff_not]
  omega
theorem valid_yes {c : Nat} (h : ¬ (55296 ≤ c ∧ c ≤ 57343)) (h2 : c ≤ 1114111) : Utf8.valid (c : Int) = true := by
  simp only [Utf8.valid, Bool.or_eq_true, Bool.and_eq_true, decide_eq_true_eq]
  omega
theorem fm_high {z b0 b1 b2 b3 : Nat} (h : 244 < b0) : firM z b0 b1 b2 b3 = 0 := by
  refine fm_err ?_ (rp_no (by omega))
  have e0 : (b0 / 32 == 6) = false := beq_eq_false_iff_ne.2 (by omega)
  have e1 : (b0 / 16 == 14) = false := beq_eq_false_iff_ne.2 (by omega)
  rw [dec1, if_neg (by omega), e0, e1]
  simp only [Bool.false_and, Bool.false_eq_true, if_false]
  split
  · rename_i h3
    simp only [Bool.and_eq_true, beq_iff_eq] at h3
    rw [valid_no (.inr (by omega)), Bool.and_false]
    rfl
  · rfl
/-- Two bytes. -/
theorem fm_2 {z b0 b1 b2 b3 : Nat} (h : 194 ≤ b0) (h2 : b0 < 224) : firM z b0 b1 b2 b3 = if 2 ≤ z ∧ b1 / 64 = 2 then 2 else 0 := by
  have e0 : (b0 / 32 == 6) = true := beq_iff_eq.2 (by omega)
  have e1 : (b0 / 16 == 14) = false := beq_eq_false_iff_ne.2 (by omega)
  have e2 : (b0 / 8 == 30) = false := beq_eq_false_iff_ne.2 (by omega)
  by_cases hz : 2 ≤ z ∧ b1 / 64 = 2
  · rw [if_pos hz]
    refine fm_ok (c := (b0 % 32) * 64 + b1 % 64) ?_ (fun e => by omega)
    rw [dec1, if_neg (by omega), e0, decide_eq_true (show 1 < z by omega), show (b1 / 64 == 2) = true from beq_iff_eq.2 hz.2]
    simp only [Bool.true_and, if_true]
    rw [if_pos (by omega)]
  · rw [if_neg hz]
    refine fm_err ?_ (rp_no (by omega))
    have e3 : (decide (1 < z) && b1 / 64 == 2) = false := by
      rw [Bool.and_eq_false_iff, decide_eq_false_iff_not, beq_eq_false_iff_ne]
      omega
    rw [dec1, if_neg (by omega), e0, e1, e2, e3]
    rfl
def ch3 (b0 b1 b2 : Nat) : Nat := (b0 % 16) * 4096 + (b1 % 64) * 64 + b2 % 64
/-- Three bytes. -/
theorem fm_3 {z b0 b1 b2 b3 : Nat} (h : 224 ≤ b0) (h2 : b0 < 240) : firM z b0 b1 b2 b3 = if (3 ≤ z ∧ b1 / 64 = 2 ∧ b2 / 64 = 2) ∧ 2048 ≤ ch3 b0 b1 b2 ∧ ¬ (55296 ≤ ch3 b0 b1 b2 ∧ ch3 b0 b1 b2 ≤ 57343) then 3 else 0 := by
  have e0 : (b0 / 32 == 6) = false := beq_eq_false_iff_ne.2 (by omega)
  have e1 : (b0 / 16 == 14) = true := beq_iff_eq.2 (by omega)
  have e2 : (b0 / 8 == 30) = false := beq_eq_false_iff_ne.2 (by omega)
  by_cases hz : 3 ≤ z ∧ b1 / 64 = 2 ∧ b2 / 64 = 2
  · have hd : dec1 z b0 b1 b2 b3 = if decide (ch3 b0 b1 b2 ≥ 2048) && Utf8.valid ((ch3 b0 b1 b2 : Nat) : Int) then (ch3 b0 b1 b2, 3) else (65533, 1) := by
      rw [dec1, if_neg (by omega), e0, e1, decide_eq_true (show 1 < z by omega), decide_eq_true (show 2 < z by omega), show (b1 / 64 == 2) = true from beq_iff_eq.2 hz.2.1, show (b2 / 64 == 2) = true from beq_iff_eq.2 hz.2.2]
      simp only [Bool.false_and, Bool.false_eq_true, if_false, Bool.true_and, if_true, ch3]
      rfl
    obtain ⟨c, hc⟩ : ∃ c, c = ch3 b0 b1 b2 := ⟨_, rfl⟩
    have hcl : c ≤ 65535 := by rw [hc, ch3]; omega
    have hrp : c = 65533 → rp z b0 b1 b2 = true := fun e => decide_eq_true ⟨hz.1, by
      rw [hc, ch3] at e
      have := hz.2
      omega⟩
    have hrn : c ≠ 65533 → rp z b0 b1 b2 = false := fun e => decide_eq_false (fun ⟨_, q0, q1, q2⟩ => e (by rw [hc, ch3, q0, q1, q2]))
    rw [← hc] at hd ⊢
    clear hc
    by_cases hv : 2048 ≤ c ∧ ¬ (55296 ≤ c ∧ c ≤ 57343)
    · rw [if_pos ⟨hz, hv⟩]
      rw [decide_eq_true hv.1, valid_yes hv.2 (by omega)] at hd
      exact fm_ok hd hrp
    · rw [if_neg (fun e => hv e.2)]
      refine fm_err ?_ (hrn (by omega))
      rw [hd]
      by_cases h4 : 2048 ≤ c
      · rw [valid_no (.inl (by omega)), Bool.and_false]
        rfl
      · rw [decide_eq_false h4]
        rfl
  · rw [if_neg (fun e => hz e.1)]
    have e3 : ((decide (1 < z) && b1 / 64 == 2) && (decide (2 < z) && b2 / 64 == 2)) = false := by
      simp only [Bool.and_eq_false_iff, decide_eq_false_iff_not, beq_eq_false_iff_ne]
      omega
    refine fm_err ?_ (decide_eq_false (fun ⟨q, _, q1, q2⟩ => hz ⟨q, by omega, by omega⟩))
    rw [dec1, if_neg (by omega), e0, e1, e2]
    simp only [Bool.false_and, Bool.true_and, Bool.false_eq_true, if_false]
    rw [e3]
    rfl
def ch4 (b0 b1 b2 b3 : Nat) : Nat := (b0 % 8) * 262144 + (b1 % 64) * 4096 + (b2 % 64) * 64 + b3 % 64
/-- Four bytes. -/
theorem fm_4 {z b0 b1 b2 b3 : Nat} (h : 240 ≤ b0) (h2 : b0 ≤ 244) : firM z b0 b1 b2 b3 = if (4 ≤ z ∧ b1 / 64 = 2 ∧ b2 / 64 = 2 ∧ b3 / 64 = 2) ∧ 65536 ≤ ch4 b0 b1 b2 b3 ∧ ch4 b0 b1 b2 b3 ≤ 1114111 then 4 else 0 := by
  have e0 : (b0 / 32 == 6) = false := beq_eq_false_iff_ne.2 (by omega)
  have e1 : (b0 / 16 == 14) = false := beq_eq_false_iff_ne.2 (by omega)
  have e2 : (b0 / 8 == 30) = true := beq_iff_eq.2 (by omega)
  by_cases hz : 4 ≤ z ∧ b1 / 64 = 2 ∧ b2 / 64 = 2 ∧ b3 / 64 = 2
  · have hd : dec1 z b0 b1 b2 b3 = if decide (ch4 b0 b1 b2 b3 ≥ 65536) && Utf8.valid ((ch4 b0 b1 b2 b3 : Nat) : Int) then (ch4 b0 b1 b2 b3, 4) else (65533, 1) := by
      rw [dec1, if_neg (by omega), e0, e1, e2, decide_eq_true (show 1 < z by omega), decide_eq_true (show 2 < z by omega), decide_eq_true (show 3 < z by omega), show (b1 / 64 == 2) = true from beq_iff_eq.2 hz.2.1, show (b2 / 64 == 2) = true from beq_iff_eq.2 hz.2.2.1, show (b3 / 64 == 2) = true from beq_iff_eq.2 hz.2.2.2]
      simp only [Bool.false_and, Bool.false_eq_true, if_false, Bool.true_and, if_true, ch4]
      rfl
    obtain ⟨c, hc⟩ : ∃ c, c = ch4 b0 b1 b2 b3 := ⟨_, rfl⟩
    rw [← hc] at hd ⊢
    clear hc
    by_cases hv : 65536 ≤ c ∧ c ≤ 1114111
    · rw [if_pos ⟨hz, hv⟩]
      rw [decide_eq_true hv.1, valid_yes (by omega) hv.2] at hd
      exact fm_ok hd (fun e => by omega)
    · rw [if_neg (fun e => hv e.2)]
      refine fm_err ?_ (rp_no (by omega))
      rw [hd]
      by_cases h4 : 65536 ≤ c
      · rw [valid_no (.inr (by omega)), Bool.and_false]
        rfl
      · rw [decide_eq_false h4]
        rfl
  · rw [if_neg (fun e => hz e.1)]
    have e3 : (((decide (1 < z) && b1 / 64 == 2) && (decide (2 < z) && b2 / 64 == 2)) && (decide (3 < z) && b3 / 64 == 2)) = false := by
      simp only [Bool.and_eq_false_iff, decide_eq_false_iff_not, beq_eq_false_iff_ne]
      omega
    refine fm_err ?_ (rp_no (by omega))
    rw [dec1, if_neg (by omega), e0, e1, e2]
    simp only [Bool.false_and, Bool.true_and, Bool.false_eq_true, if_false]
    rw [e3]
    rfl
end Go.Proofs.YtomociaidccfmaaGreatDoor

namespace Go.Proofs.YtomociaidccfmaaGreatDoor
open Go.RowKit

theorem and31 : ∀ b : Nat, b < 256 → bits BinOp.and IntKind.i64 (b : Int) 31 = ((b % 32 : Nat) : Int) := by decide +kernel
theorem and15 : ∀ b : Nat, b < 32 → bits BinOp.and IntKind.i64 (b : Int) 15 = ((b % 16 : Nat) : Int) := by decide +kernel
theorem and7 : ∀ b : Nat, b < 16 → bits BinOp.and IntKind.i64 (b : Int) 7 = ((b % 8 : Nat) : Int) := by decide +kernel
theorem and192 : ∀ b : Nat, b < 256 → bits BinOp.and IntKind.u8 (b : Int) 192 = ((b / 64 * 64 : Nat) : Int) := by decide +kernel
theorem and63 : ∀ b : Nat, b < 256 → bits BinOp.and IntKind.u8 (b : Int) 63 = ((b % 64 : Nat) : Int) := by decide +kernel
theorem wS {a : Nat} (h : a < 1000000000) : wrap64 (a : Int) = (a : Int) := by unfold wrap64; omega
theorem wM {a : Nat} (h : a < 1000000000) : wrap64 (64 * (a : Int)) = 64 * (a : Int) := by unfold wrap64; omega
def FirP (n : Int) (w : World) (o : Ending) (w' : World) : Prop := (∃ c, o = .returned (.tuple #[.int .i64 c, .int .i64 n])) ∧ w' = w
set_option maxRecDepth 100000 in
set_option maxHeartbeats 1000000 in
theorem fir_ascii (T : ByteArray) (w : World) (b0 : Nat) (s0 : 0 < T.size) (e0 : T[0].toNat = b0) (w0 : wrap64 (b0 : Int) = (b0 : Int)) (q1 : ¬ (128 : Int) ≤ (b0 : Int)) (q2 : ¬ (T.size : Int) < 1) (x0 : decide ((b0 : Int) < 0) = false) (x1 : decide ((1114111 : Int) < (b0 : Int)) = false) (x2 : decide ((55296 : Int) ≤ (b0 : Int)) = false) : Calls Tryz.prog 62 #[.string T] w (FirP 1 w) := by
  go_enter Tryz.func62, Tryz.ntmps62
  go_wp2_with fail
  refine wp_loop_rounds 1 ?_
  rw [rounds_succ]
  go_wp2_with fail
  go_ret2
  exact ⟨⟨_, rfl⟩, rfl⟩
set_option maxRecDepth 100000 in
set_option maxHeartbeats 1000000 in
theorem fir_low (T : ByteArray) (w : World) (b0 : Nat) (s0 : 0 < T.size) (e0 : T[0].toNat = b0) (w0 : wrap64 (b0 : Int) = (b0 : Int)) (q1 : (128 : Int) ≤ (b0 : Int)) (q2 : (b0 : Int) < 194) : Calls Tryz.prog 62 #[.string T] w (FirP 0 w) := by
  go_enter Tryz.func62, Tryz.ntmps62
  go_wp2_with fail
  go_ret2
  exact ⟨⟨_, rfl⟩, rfl⟩
set_option maxRecDepth 100000 in
set_option maxHeartbeats 1000000 in
theorem fir_high (T : ByteArray) (w : World) (b0 : Nat) (s0 : 0 < T.size) (e0 : T[0].toNat = b0) (w0 : wrap64 (b0 : Int) = (b0 : Int)) (q1 : (128 : Int) ≤ (b0 : Int)) (q2 : ¬ (b0 : Int) < 194) (q3 : (244 : Int) < (b0 : Int)) : Calls Tryz.prog 62 #[.string T] w (FirP 0 w) := by
  go_enter Tryz.func62, Tryz.ntmps62
  go_wp2_with fail
  go_ret2
  exact ⟨⟨_, rfl⟩, rfl⟩
set_option maxRecDepth 100000 in
set_option maxHeartbeats 1000000 in
theorem fir_2_size (T : ByteArray) (w : World) (b0 c1 : Nat) (s0 : 0 < T.size) (e0 : T[0].toNat = b0) (w0 : wrap64 (b0 : Int) = (b0 : Int)) (q1 : (128 : Int) ≤ (b0 : Int)) (q2 : ¬ (b0 : Int) < 194) (q3 : ¬ (244 : Int) < (b0 : Int)) (q4 : ¬ (224 : Int) ≤ (b0 : Int)) (q5 : ¬ (240 : Int) ≤ (b0 : Int)) (a31 : bits BinOp.and IntKind.i64 (b0 : Int) 31 = (c1 : Int)) (q6 : (T.size : Int) < 2) : Calls Tryz.prog 62 #[.string T] w (FirP 0 w) := by
  go_enter Tryz.func62, Tryz.ntmps62
  go_wp2_with fail
  go_ret2
  exact ⟨⟨_, rfl⟩, rfl⟩
set_option maxRecDepth 100000 in
set_option maxHeartbeats 1000000 in
theorem fir_2_1 (T : ByteArray) (w : World) (b0 b1 c1 g1 : Nat) (s0 : 0 < T.size) (e0 : T[0].toNat = b0) (s1 : 1 < T.size) (e1 : T[1].toNat = b1) (j1 : (1 : Int) < (T.size : Int)) (w0 : wrap64 (b0 : Int) = (b0 : Int)) (q1 : (128 : Int) ≤ (b0 : Int)) (q2 : ¬ (b0 : Int) < 194) (q3 : ¬ (244 : Int) < (b0 : Int)) (q4 : ¬ (224 : Int) ≤ (b0 : Int)) (q5 : ¬ (240 : Int) ≤ (b0 : Int)) (a31 : bits BinOp.and IntKind.i64 (b0 : Int) 31 = (c1 : Int)) (q6 : ¬ (T.size : Int) < 2) (a1 : bits BinOp.and IntKind.u8 (b1 : Int) 192 = (g1 : Int)) (z1 : ¬ (g1 : Int) = 128) : Calls Tryz.prog 62 #[.string T] w (FirP 0 w) := by
  go_enter Tryz.func62, Tryz.ntmps62
  go_wp2_with fail
  refine wp_loop_rounds 1 ?_
  rw [rounds_succ]
  go_wp2_with fail
  go_ret2
  exact ⟨⟨_, rfl⟩, rfl⟩
set_option maxRecDepth 100000 in
set_option maxHeartbeats 1000000 in
theorem fir_2_under (T : ByteArray) (w : World) (b0 b1 c1 p1 C1 : Nat) (s0 : 0 < T.size) (e0 : T[0].toNat = b0) (s1 : 1 < T.size) (e1 : T[1].toNat = b1) (j1 : (1 : Int) < (T.size : Int)) (w0 : wrap64 (b0 : Int) = (b0 : Int)) (q1 : (128 : Int) ≤ (b0 : Int)) (q2 : ¬ (b0 : Int) < 194) (q3 : ¬ (244 : Int) < (b0 : Int)) (q4 : ¬ (224 : Int) ≤ (b0 : Int)) (q5 : ¬ (240 : Int) ≤ (b0 : Int)) (a31 : bits BinOp.and IntKind.i64 (b0 : Int) 31 = (c1 : Int)) (q6 : ¬ (T.size : Int) < 2) (a1 : bits BinOp.and IntKind.u8 (b1 : Int) 192 = 128) (f1 : bits BinOp.and IntKind.u8 (b1 : Int) 63 = (p1 : Int)) (u1 : wrap64 (p1 : Int) = (p1 : Int)) (v1 : (64 : Int) * (c1 : Int) + (p1 : Int) = (C1 : Int)) (m1 : wrap64 ((64 : Int) * (c1 : Int)) = (64 : Int) * (c1 : Int)) (t1 : wrap64 (C1 : Int) = (C1 : Int)) (x0 : decide ((C1 : Int) < 128) = false) (x1 : decide ((1114111 : Int) < (C1 : Int)) = false) (x2 : decide ((55296 : Int) ≤ (C1 : Int)) = false) : Calls Tryz.prog 62 #[.string T] w (FirP 2 w) := by
  go_enter Tryz.func62, Tryz.ntmps62
  go_wp2_with fail
  refine wp_loop_rounds 2 ?_
  rw [rounds_succ]
  go_wp2_with fail
  rw [rounds_succ]
  go_wp2_with fail
  go_ret2
  exact ⟨⟨_, rfl⟩, rfl⟩
set_option maxRecDepth 100000 in
set_option maxHeartbeats 1000000 in
theorem fir_3_size (T : ByteArray) (w : World) (b0 c1 c2 : Nat) (s0 : 0 < T.size) (e0 : T[0].toNat = b0) (w0 : wrap64 (b0 : Int) = (b0 : Int)) (q1 : (128 : Int) ≤ (b0 : Int)) (q2 : ¬ (b0 : Int) < 194) (q3 : ¬ (244 : Int) < (b0 : Int)) (q4 : (224 : Int) ≤ (b0 : Int)) (q5 : ¬ (240 : Int) ≤ (b0 : Int)) (a31 : bits BinOp.and IntKind.i64 (b0 : Int) 31 = (c1 : Int)) (a15 : bits BinOp.and IntKind.i64 (c1 : Int) 15 = (c2 : Int)) (q6 : (T.size : Int) < 3) : Calls Tryz.prog 62 #[.string T] w (FirP 0 w) := by
  go_enter Tryz.func62, Tryz.ntmps62
  go_wp2_with fail
  go_ret2
  exact ⟨⟨_, rfl⟩, rfl⟩
set_option maxRecDepth 100000 in
set_option maxHeartbeats 1000000 in
theorem fir_3_1 (T : ByteArray) (w : World) (b0 b1 c1 c2 g1 : Nat) (s0 : 0 < T.size) (e0 : T[0].toNat = b0) (s1 : 1 < T.size) (e1 : T[1].toNat = b1) (j1 : (1 : Int) < (T.size : Int)) (w0 : wrap64 (b0 : Int) = (b0 : Int)) (q1 : (128 : Int) ≤ (b0 : Int)) (q2 : ¬ (b0 : Int) < 194) (q3 : ¬ (244 : Int) < (b0 : Int)) (q4 : (224 : Int) ≤ (b0 : Int)) (q5 : ¬ (240 : Int) ≤ (b0 : Int)) (a31 : bits BinOp.and IntKind.i64 (b0 : Int) 31 = (c1 : Int)) (a15 : bits BinOp.and IntKind.i64 (c1 : Int) 15 = (c2 : Int)) (q6 : ¬ (T.size : Int) < 3) (a1 : bits BinOp.and IntKind.u8 (b1 : Int) 192 = (g1 : Int)) (z1 : ¬ (g1 : Int) = 128) : Calls Tryz.prog 62 #[.string T] w (FirP 0 w) := by
  go_enter Tryz.func62, Tryz.ntmps62
  go_wp2_with fail
  refine wp_loop_rounds 1 ?_
  rw [rounds_succ]
  go_wp2_with fail
  go_ret2
  exact ⟨⟨_, rfl⟩, rfl⟩
set_option maxRecDepth 100000 in
set_option maxHeartbeats 1000000 in
theorem fir_3_2 (T : ByteArray) (w : World) (b0 b1 b2 c1 c2 p1 C1 g2 : Nat) (s0 : 0 < T.size) (e0 : T[0].toNat = b0) (s1 : 1 < T.size) (e1 : T[1].toNat = b1) (j1 : (1 : Int) < (T.size : Int)) (s2 : 2 < T.size) (e2 : T[2].toNat = b2) (j2 : (2 : Int) < (T.size : Int)) (w0 : wrap64 (b0 : Int) = (b0 : Int)) (q1 : (128 : Int) ≤ (b0 : Int)) (q2 : ¬ (b0 : Int) < 194) (q3 : ¬ (244 : Int) < (b0 : Int)) (q4 : (224 : Int) ≤ (b0 : Int)) (q5 : ¬ (240 : Int) ≤ (b0 : Int)) (a31 : bits BinOp.and IntKind.i64 (b0 : Int) 31 = (c1 : Int)) (a15 : bits BinOp.and IntKind.i64 (c1 : Int) 15 = (c2 : Int)) (q6 : ¬ (T.size : Int) < 3) (a1 : bits BinOp.and IntKind.u8 (b1 : Int) 192 = 128) (f1 : bits BinOp.and IntKind.u8 (b1 : Int) 63 = (p1 : Int)) (u1 : wrap64 (p1 : Int) = (p1 : Int)) (v1 : (64 : Int) * (c2 : Int) + (p1 : Int) = (C1 : Int)) (m1 : wrap64 ((64 : Int) * (c2 : Int)) = (64 : Int) * (c2 : Int)) (_t1 : wrap64 (C1 : Int) = (C1 : Int)) (a2 : bits BinOp.and IntKind.u8 (b2 : Int) 192 = (g2 : Int)) (z2 : ¬ (g2 : Int) = 128) : Calls Tryz.prog 62 #[.string T] w (FirP 0 w) := by
  go_enter Tryz.func62, Tryz.ntmps62
  go_wp2_with fail
  refine wp_loop_rounds 2 ?_
  rw [rounds_succ]
  go_wp2_with fail
  rw [rounds_succ]
  go_wp2_with fail
  go_ret2
  exact ⟨⟨_, rfl⟩, rfl⟩
set_option maxRecDepth 100000 in
set_option maxHeartbeats 1000000 in
theorem fir_3_least (T : ByteArray) (w : World) (b0 b1 b2 c1 c2 p1 C1 p2 C2 : Nat) (s0 : 0 < T.size) (e0 : T[0].toNat = b0) (s1 : 1 < T.size) (e1 : T[1].toNat = b1) (j1 : (1 : Int) < (T.size : Int)) (s2 : 2 < T.size) (e2 : T[2].toNat = b2) (j2 : (2 : Int) < (T.size : Int)) (w0 : wrap64 (b0 : Int) = (b0 : Int)) (q1 : (128 : Int) ≤ (b0 : Int)) (q2 : ¬ (b0 : Int) < 194) (q3 : ¬ (244 : Int) < (b0 : Int)) (q4 : (224 : Int) ≤ (b0 : Int)) (q5 : ¬ (240 : Int) ≤ (b0 : Int)) (a31 : bits BinOp.and IntKind.i64 (b0 : Int) 31 = (c1 : Int)) (a15 : bits BinOp.and IntKind.i64 (c1 : Int) 15 = (c2 : Int)) (q6 : ¬ (T.size : Int) < 3) (a1 : bits BinOp.and IntKind.u8 (b1 : Int) 192 = 128) (f1 : bits BinOp.and IntKind.u8 (b1 : Int) 63 = (p1 : Int)) (u1 : wrap64 (p1 : Int) = (p1 : Int)) (v1 : (64 : Int) * (c2 : Int) + (p1 : Int) = (C1 : Int)) (m1 : wrap64 ((64 : Int) * (c2 : Int)) = (64 : Int) * (c2 : Int)) (t1 : wrap64 (C1 : Int) = (C1 : Int)) (a2 : bits BinOp.and IntKind.u8 (b2 : Int) 192 = 128) (f2 : bits BinOp.and IntKind.u8 (b2 : Int) 63 = (p2 : Int)) (u2 : wrap64 (p2 : Int) = (p2 : Int)) (v2 : (64 : Int) * (C1 : Int) + (p2 : Int) = (C2 : Int)) (m2 : wrap64 ((64 : Int) * (C1 : Int)) = (64 : Int) * (C1 : Int)) (t2 : wrap64 (C2 : Int) = (C2 : Int)) (x0 : decide ((C2 : Int) < 2048) = true) : Calls Tryz.prog 62 #[.string T] w (FirP 0 w) := by
  go_enter Tryz.func62, Tryz.ntmps62
  go_wp2_with fail
  refine wp_loop_rounds 3 ?_
  rw [rounds_succ]
  go_wp2_with fail
  rw [rounds_succ]
  go_wp2_with fail
  rw [rounds_succ]
  go_wp2_with fail
  go_ret2
  exact ⟨⟨_, rfl⟩, rfl⟩
set_option maxRecDepth 100000 in
set_option maxHeartbeats 1000000 in
theorem fir_3_half (T : ByteArray) (w : World) (b0 b1 b2 c1 c2 p1 C1 p2 C2 : Nat) (s0 : 0 < T.size) (e0 : T[0].toNat = b0) (s1 : 1 < T.size) (e1 : T[1].toNat = b1) (j1 : (1 : Int) < (T.size : Int)) (s2 : 2 < T.size) (e2 : T[2].toNat = b2) (j2 : (2 : Int) < (T.size : Int)) (w0 : wrap64 (b0 : Int) = (b0 : Int)) (q1 : (128 : Int) ≤ (b0 : Int)) (q2 : ¬ (b0 : Int) < 194) (q3 : ¬ (244 : Int) < (b0 : Int)) (q4 : (224 : Int) ≤ (b0 : Int)) (q5 : ¬ (240 : Int) ≤ (b0 : Int)) (a31 : bits BinOp.and IntKind.i64 (b0 : Int) 31 = (c1 : Int)) (a15 : bits BinOp.and IntKind.i64 (c1 : Int) 15 = (c2 : Int)) (q6 : ¬ (T.size : Int) < 3) (a1 : bits BinOp.and IntKind.u8 (b1 : Int) 192 = 128) (f1 : bits BinOp.and IntKind.u8 (b1 : Int) 63 = (p1 : Int)) (u1 : wrap64 (p1 : Int) = (p1 : Int)) (v1 : (64 : Int) * (c2 : Int) + (p1 : Int) = (C1 : Int)) (m1 : wrap64 ((64 : Int) * (c2 : Int)) = (64 : Int) * (c2 : Int)) (t1 : wrap64 (C1 : Int) = (C1 : Int)) (a2 : bits BinOp.and IntKind.u8 (b2 : Int) 192 = 128) (f2 : bits BinOp.and IntKind.u8 (b2 : Int) 63 = (p2 : Int)) (u2 : wrap64 (p2 : Int) = (p2 : Int)) (v2 : (64 : Int) * (C1 : Int) + (p2 : Int) = (C2 : Int)) (m2 : wrap64 ((64 : Int) * (C1 : Int)) = (64 : Int) * (C1 : Int)) (t2 : wrap64 (C2 : Int) = (C2 : Int)) (x0 : decide ((C2 : Int) < 2048) = false) (x1 : decide ((1114111 : Int) < (C2 : Int)) = false) (x2 : decide ((55296 : Int) ≤ (C2 : Int)) = true) (x3 : decide ((C2 : Int) ≤ 57343) = true) : Calls Tryz.prog 62 #[.string T] w (FirP 0 w) := by
  go_enter Tryz.func62, Tryz.ntmps62
  go_wp2_with fail
  refine wp_loop_rounds 3 ?_
  rw [rounds_succ]
  go_wp2_with fail
  rw [rounds_succ]
  go_wp2_with fail
  rw [rounds_succ]
  go_wp2_with fail
  go_ret2
  exact ⟨⟨_, rfl⟩, rfl⟩
set_option maxRecDepth 100000 in
set_option maxHeartbeats 1000000 in
theorem fir_3_under (T : ByteArray) (w : World) (b0 b1 b2 c1 c2 p1 C1 p2 C2 : Nat) (s0 : 0 < T.size) (e0 : T[0].toNat = b0) (s1 : 1 < T.size) (e1 : T[1].toNat = b1) (j1 : (1 : Int) < (T.size : Int)) (s2 : 2 < T.size) (e2 : T[2].toNat = b2) (j2 : (2 : Int) < (T.size : Int)) (w0 : wrap64 (b0 : Int) = (b0 : Int)) (q1 : (128 : Int) ≤ (b0 : Int)) (q2 : ¬ (b0 : Int) < 194) (q3 : ¬ (244 : Int) < (b0 : Int)) (q4 : (224 : Int) ≤ (b0 : Int)) (q5 : ¬ (240 : Int) ≤ (b0 : Int)) (a31 : bits BinOp.and IntKind.i64 (b0 : Int) 31 = (c1 : Int)) (a15 : bits BinOp.and IntKind.i64 (c1 : Int) 15 = (c2 : Int)) (q6 : ¬ (T.size : Int) < 3) (a1 : bits BinOp.and IntKind.u8 (b1 : Int) 192 = 128) (f1 : bits BinOp.and IntKind.u8 (b1 : Int) 63 = (p1 : Int)) (u1 : wrap64 (p1 : Int) = (p1 : Int)) (v1 : (64 : Int) * (c2 : Int) + (p1 : Int) = (C1 : Int)) (m1 : wrap64 ((64 : Int) * (c2 : Int)) = (64 : Int) * (c2 : Int)) (t1 : wrap64 (C1 : Int) = (C1 : Int)) (a2 : bits BinOp.and IntKind.u8 (b2 : Int) 192 = 128) (f2 : bits BinOp.and IntKind.u8 (b2 : Int) 63 = (p2 : Int)) (u2 : wrap64 (p2 : Int) = (p2 : Int)) (v2 : (64 : Int) * (C1 : Int) + (p2 : Int) = (C2 : Int)) (m2 : wrap64 ((64 : Int) * (C1 : Int)) = (64 : Int) * (C1 : Int)) (t2 : wrap64 (C2 : Int) = (C2 : Int)) (x0 : decide ((C2 : Int) < 2048) = false) (x1 : decide ((1114111 : Int) < (C2 : Int)) = false) (x2 : decide ((55296 : Int) ≤ (C2 : Int)) = false) : Calls Tryz.prog 62 #[.string T] w (FirP 3 w) := by
  go_enter Tryz.func62, Tryz.ntmps62
  go_wp2_with fail
  refine wp_loop_rounds 3 ?_
  rw [rounds_succ]
  go_wp2_with fail
  rw [rounds_succ]
  go_wp2_with fail
  rw [rounds_succ]
  go_wp2_with fail
  go_ret2
  exact ⟨⟨_, rfl⟩, rfl⟩
set_option maxRecDepth 100000 in
set_option maxHeartbeats 1000000 in
theorem fir_3_over (T : ByteArray) (w : World) (b0 b1 b2 c1 c2 p1 C1 p2 C2 : Nat) (s0 : 0 < T.size) (e0 : T[0].toNat = b0) (s1 : 1 < T.size) (e1 : T[1].toNat = b1) (j1 : (1 : Int) < (T.size : Int)) (s2 : 2 < T.size) (e2 : T[2].toNat = b2) (j2 : (2 : Int) < (T.size : Int)) (w0 : wrap64 (b0 : Int) = (b0 : Int)) (q1 : (128 : Int) ≤ (b0 : Int)) (q2 : ¬ (b0 : Int) < 194) (q3 : ¬ (244 : Int) < (b0 : Int)) (q4 : (224 : Int) ≤ (b0 : Int)) (q5 : ¬ (240 : Int) ≤ (b0 : Int)) (a31 : bits BinOp.and IntKind.i64 (b0 : Int) 31 = (c1 : Int)) (a15 : bits BinOp.and IntKind.i64 (c1 : Int) 15 = (c2 : Int)) (q6 : ¬ (T.size : Int) < 3) (a1 : bits BinOp.and IntKind.u8 (b1 : Int) 192 = 128) (f1 : bits BinOp.and IntKind.u8 (b1 : Int) 63 = (p1 : Int)) (u1 : wrap64 (p1 : Int) = (p1 : Int)) (v1 : (64 : Int) * (c2 : Int) + (p1 : Int) = (C1 : Int)) (m1 : wrap64 ((64 : Int) * (c2 : Int)) = (64 : Int) * (c2 : Int)) (t1 : wrap64 (C1 : Int) = (C1 : Int)) (a2 : bits BinOp.and IntKind.u8 (b2 : Int) 192 = 128) (f2 : bits BinOp.and IntKind.u8 (b2 : Int) 63 = (p2 : Int)) (u2 : wrap64 (p2 : Int) = (p2 : Int)) (v2 : (64 : Int) * (C1 : Int) + (p2 : Int) = (C2 : Int)) (m2 : wrap64 ((64 : Int) * (C1 : Int)) = (64 : Int) * (C1 : Int)) (t2 : wrap64 (C2 : Int) = (C2 : Int)) (x0 : decide ((C2 : Int) < 2048) = false) (x1 : decide ((1114111 : Int) < (C2 : Int)) = false) (x2 : decide ((55296 : Int) ≤ (C2 : Int)) = true) (x3 : decide ((C2 : Int) ≤ 57343) = false) : Calls Tryz.prog 62 #[.string T] w (FirP 3 w) := by
  go_enter Tryz.func62, Tryz.ntmps62
  go_wp2_with fail
  refine wp_loop_rounds 3 ?_
  rw [rounds_succ]
  go_wp2_with fail
  rw [rounds_succ]
  go_wp2_with fail
  rw [rounds_succ]
  go_wp2_with fail
  go_ret2
  exact ⟨⟨_, rfl⟩, rfl⟩
set_option maxRecDepth 100000 in
set_option maxHeartbeats 1000000 in
theorem fir_4_size (T : ByteArray) (w : World) (b0 c1 c2 c3 : Nat) (s0 : 0 < T.size) (e0 : T[0].toNat = b0) (w0 : wrap64 (b0 : Int) = (b0 : Int)) (q1 : (128 : Int) ≤ (b0 : Int)) (q2 : ¬ (b0 : Int) < 194) (q3 : ¬ (244 : Int) < (b0 : Int)) (q4 : (224 : Int) ≤ (b0 : Int)) (q5 : (240 : Int) ≤ (b0 : Int)) (a31 : bits BinOp.and IntKind.i64 (b0 : Int) 31 = (c1 : Int)) (a15 : bits BinOp.and IntKind.i64 (c1 : Int) 15 = (c2 : Int)) (a7 : bits BinOp.and IntKind.i64 (c2 : Int) 7 = (c3 : Int)) (q6 : (T.size : Int) < 4) : Calls Tryz.prog 62 #[.string T] w (FirP 0 w) := by
  go_enter Tryz.func62, Tryz.ntmps62
  go_wp2_with fail
  go_ret2
  exact ⟨⟨_, rfl⟩, rfl⟩
set_option maxRecDepth 100000 in
set_option maxHeartbeats 1000000 in
theorem fir_4_1 (T : ByteArray) (w : World) (b0 b1 c1 c2 c3 g1 : Nat) (s0 : 0 < T.size) (e0 : T[0].toNat = b0) (s1 : 1 < T.size) (e1 : T[1].toNat = b1) (j1 : (1 : Int) < (T.size : Int)) (w0 : wrap64 (b0 : Int) = (b0 : Int)) (q1 : (128 : Int) ≤ (b0 : Int)) (q2 : ¬ (b0 : Int) < 194) (q3 : ¬ (244 : Int) < (b0 : Int)) (q4 : (224 : Int) ≤ (b0 : Int)) (q5 : (240 : Int) ≤ (b0 : Int)) (a31 : bits BinOp.and IntKind.i64 (b0 : Int) 31 = (c1 : Int)) (a15 : bits BinOp.and IntKind.i64 (c1 : Int) 15 = (c2 : Int)) (a7 : bits BinOp.and IntKind.i64 (c2 : Int) 7 = (c3 : Int)) (q6 : ¬ (T.size : Int) < 4) (a1 : bits BinOp.and IntKind.u8 (b1 : Int) 192 = (g1 : Int)) (z1 : ¬ (g1 : Int) = 128) : Calls Tryz.prog 62 #[.string T] w (FirP 0 w) := by
  go_enter Tryz.func62, Tryz.ntmps62
  go_wp2_with fail
  refine wp_loop_rounds 1 ?_
  rw [rounds_succ]
  go_wp2_with fail
  go_ret2
  exact ⟨⟨_, rfl⟩, rfl⟩
set_option maxRecDepth 100000 in
set_option maxHeartbeats 1000000 in
theorem fir_4_2 (T : ByteArray) (w : World) (b0 b1 b2 c1 c2 c3 p1 C1 g2 : Nat) (s0 : 0 < T.size) (e0 : T[0].toNat = b0) (s1 : 1 < T.size) (e1 : T[1].toNat = b1) (j1 : (1 : Int) < (T.size : Int)) (s2 : 2 < T.size) (e2 : T[2].toNat = b2) (j2 : (2 : Int) < (T.size : Int)) (w0 : wrap64 (b0 : Int) = (b0 : Int)) (q1 : (128 : Int) ≤ (b0 : Int)) (q2 : ¬ (b0 : Int) < 194) (q3 : ¬ (244 : Int) < (b0 : Int)) (q4 : (224 : Int) ≤ (b0 : Int)) (q5 : (240 : Int) ≤ (b0 : Int)) (a31 : bits BinOp.and IntKind.i64 (b0 : Int) 31 = (c1 : Int)) (a15 : bits BinOp.and IntKind.i64 (c1 : Int) 15 = (c2 : Int)) (a7 : bits BinOp.and IntKind.i64 (c2 : Int) 7 = (c3 : Int)) (q6 : ¬ (T.size : Int) < 4) (a1 : bits BinOp.and IntKind.u8 (b1 : Int) 192 = 128) (f1 : bits BinOp.and IntKind.u8 (b1 : Int) 63 = (p1 : Int)) (u1 : wrap64 (p1 : Int) = (p1 : Int)) (v1 : (64 : Int) * (c3 : Int) + (p1 : Int) = (C1 : Int)) (m1 : wrap64 ((64 : Int) * (c3 : Int)) = (64 : Int) * (c3 : Int)) (_t1 : wrap64 (C1 : Int) = (C1 : Int)) (a2 : bits BinOp.and IntKind.u8 (b2 : Int) 192 = (g2 : Int)) (z2 : ¬ (g2 : Int) = 128) : Calls Tryz.prog 62 #[.string T] w (FirP 0 w) := by
  go_enter Tryz.func62, Tryz.ntmps62
  go_wp2_with fail
  refine wp_loop_rounds 2 ?_
  rw [rounds_succ]
  go_wp2_with fail
  rw [rounds_succ]
  go_wp2_with fail
  go_ret2
  exact ⟨⟨_, rfl⟩, rfl⟩
set_option maxRecDepth 100000 in
set_option maxHeartbeats 1000000 in
theorem fir_4_3 (T : ByteArray) (w : World) (b0 b1 b2 b3 c1 c2 c3 p1 C1 p2 C2 g3 : Nat) (s0 : 0 < T.size) (e0 : T[0].toNat = b0) (s1 : 1 < T.size) (e1 : T[1].toNat = b1) (j1 : (1 : Int) < (T.size : Int)) (s2 : 2 < T.size) (e2 : T[2].toNat = b2) (j2 : (2 : Int) < (T.size : Int)) (s3 : 3 < T.size) (e3 : T[3].toNat = b3) (j3 : (3 : Int) < (T.size : Int)) (w0 : wrap64 (b0 : Int) = (b0 : Int)) (q1 : (128 : Int) ≤ (b0 : Int)) (q2 : ¬ (b0 : Int) < 194) (q3 : ¬ (244 : Int) < (b0 : Int)) (q4 : (224 : Int) ≤ (b0 : Int)) (q5 : (240 : Int) ≤ (b0 : Int)) (a31 : bits BinOp.and IntKind.i64 (b0 : Int) 31 = (c1 : Int)) (a15 : bits BinOp.and IntKind.i64 (c1 : Int) 15 = (c2 : Int)) (a7 : bits BinOp.and IntKind.i64 (c2 : Int) 7 = (c3 : Int)) (q6 : ¬ (T.size : Int) < 4) (a1 : bits BinOp.and IntKind.u8 (b1 : Int) 192 = 128) (f1 : bits BinOp.and IntKind.u8 (b1 : Int) 63 = (p1 : Int)) (u1 : wrap64 (p1 : Int) = (p1 : Int)) (v1 : (64 : Int) * (c3 : Int) + (p1 : Int) = (C1 : Int)) (m1 : wrap64 ((64 : Int) * (c3 : Int)) = (64 : Int) * (c3 : Int)) (t1 : wrap64 (C1 : Int) = (C1 : Int)) (a2 : bits BinOp.and IntKind.u8 (b2 : Int) 192 = 128) (f2 : bits BinOp.and IntKind.u8 (b2 : Int) 63 = (p2 : Int)) (u2 : wrap64 (p2 : Int) = (p2 : Int)) (v2 : (64 : Int) * (C1 : Int) + (p2 : Int) = (C2 : Int)) (m2 : wrap64 ((64 : Int) * (C1 : Int)) = (64 : Int) * (C1 : Int)) (_t2 : wrap64 (C2 : Int) = (C2 : Int)) (a3 : bits BinOp.and IntKind.u8 (b3 : Int) 192 = (g3 : Int)) (z3 : ¬ (g3 : Int) = 128) : Calls Tryz.prog 62 #[.string T] w (FirP 0 w) := by
  go_enter Tryz.func62, Tryz.ntmps62
  go_wp2_with fail
  refine wp_loop_rounds 3 ?_
  rw [rounds_succ]
  go_wp2_with fail
  rw [rounds_succ]
  go_wp2_with fail
  rw [rounds_succ]
  go_wp2_with fail
  go_ret2
  exact ⟨⟨_, rfl⟩, rfl⟩
set_option maxRecDepth 100000 in
set_option maxHeartbeats 1000000 in
theorem fir_4_least (T : ByteArray) (w : World) (b0 b1 b2 b3 c1 c2 c3 p1 C1 p2 C2 p3 C3 : Nat) (s0 : 0 < T.size) (e0 : T[0].toNat = b0) (s1 : 1 < T.size) (e1 : T[1].toNat = b1) (j1 : (1 : Int) < (T.size : Int)) (s2 : 2 < T.size) (e2 : T[2].toNat = b2) (j2 : (2 : Int) < (T.size : Int)) (s3 : 3 < T.size) (e3 : T[3].toNat = b3) (j3 : (3 : Int) < (T.size : Int)) (w0 : wrap64 (b0 : Int) = (b0 : Int)) (q1 : (128 : Int) ≤ (b0 : Int)) (q2 : ¬ (b0 : Int) < 194) (q3 : ¬ (244 : Int) < (b0 : Int)) (q4 : (224 : Int) ≤ (b0 : Int)) (q5 : (240 : Int) ≤ (b0 : Int)) (a31 : bits BinOp.and IntKind.i64 (b0 : Int) 31 = (c1 : Int)) (a15 : bits BinOp.and IntKind.i64 (c1 : Int) 15 = (c2 : Int)) (a7 : bits BinOp.and IntKind.i64 (c2 : Int) 7 = (c3 : Int)) (q6 : ¬ (T.size : Int) < 4) (a1 : bits BinOp.and IntKind.u8 (b1 : Int) 192 = 128) (f1 : bits BinOp.and IntKind.u8 (b1 : Int) 63 = (p1 : Int)) (u1 : wrap64 (p1 : Int) = (p1 : Int)) (v1 : (64 : Int) * (c3 : Int) + (p1 : Int) = (C1 : Int)) (m1 : wrap64 ((64 : Int) * (c3 : Int)) = (64 : Int) * (c3 : Int)) (t1 : wrap64 (C1 : Int) = (C1 : Int)) (a2 : bits BinOp.and IntKind.u8 (b2 : Int) 192 = 128) (f2 : bits BinOp.and IntKind.u8 (b2 : Int) 63 = (p2 : Int)) (u2 : wrap64 (p2 : Int) = (p2 : Int)) (v2 : (64 : Int) * (C1 : Int) + (p2 : Int) = (C2 : Int)) (m2 : wrap64 ((64 : Int) * (C1 : Int)) = (64 : Int) * (C1 : Int)) (t2 : wrap64 (C2 : Int) = (C2 : Int)) (a3 : bits BinOp.and IntKind.u8 (b3 : Int) 192 = 128) (f3 : bits BinOp.and IntKind.u8 (b3 : Int) 63 = (p3 : Int)) (u3 : wrap64 (p3 : Int) = (p3 : Int)) (v3 : (64 : Int) * (C2 : Int) + (p3 : Int) = (C3 : Int)) (m3 : wrap64 ((64 : Int) * (C2 : Int)) = (64 : Int) * (C2 : Int)) (t3 : wrap64 (C3 : Int) = (C3 : Int)) (x0 : decide ((C3 : Int) < 65536) = true) : Calls Tryz.prog 62 #[.string T] w (FirP 0 w) := by
  go_enter Tryz.func62, Tryz.ntmps62
  go_wp2_with fail
  refine wp_loop_rounds 4 ?_
  rw [rounds_succ]
  go_wp2_with fail
  rw [rounds_succ]
  go_wp2_with fail
  rw [rounds_succ]
  go_wp2_with fail
  rw [rounds_succ]
  go_wp2_with fail
  go_ret2
  exact ⟨⟨_, rfl⟩, rfl⟩
set_option maxRecDepth 100000 in
set_option maxHeartbeats 1000000 in
theorem fir_4_most (T : ByteArray) (w : World) (b0 b1 b2 b3 c1 c2 c3 p1 C1 p2 C2 p3 C3 : Nat) (s0 : 0 < T.size) (e0 : T[0].toNat = b0) (s1 : 1 < T.size) (e1 : T[1].toNat = b1) (j1 : (1 : Int) < (T.size : Int)) (s2 : 2 < T.size) (e2 : T[2].toNat = b2) (j2 : (2 : Int) < (T.size : Int)) (s3 : 3 < T.size) (e3 : T[3].toNat = b3) (j3 : (3 : Int) < (T.size : Int)) (w0 : wrap64 (b0 : Int) = (b0 : Int)) (q1 : (128 : Int) ≤ (b0 : Int)) (q2 : ¬ (b0 : Int) < 194) (q3 : ¬ (244 : Int) < (b0 : Int)) (q4 : (224 : Int) ≤ (b0 : Int)) (q5 : (240 : Int) ≤ (b0 : Int)) (a31 : bits BinOp.and IntKind.i64 (b0 : Int) 31 = (c1 : Int)) (a15 : bits BinOp.and IntKind.i64 (c1 : Int) 15 = (c2 : Int)) (a7 : bits BinOp.and IntKind.i64 (c2 : Int) 7 = (c3 : Int)) (q6 : ¬ (T.size : Int) < 4) (a1 : bits BinOp.and IntKind.u8 (b1 : Int) 192 = 128) (f1 : bits BinOp.and IntKind.u8 (b1 : Int) 63 = (p1 : Int)) (u1 : wrap64 (p1 : Int) = (p1 : Int)) (v1 : (64 : Int) * (c3 : Int) + (p1 : Int) = (C1 : Int)) (m1 : wrap64 ((64 : Int) * (c3 : Int)) = (64 : Int) * (c3 : Int)) (t1 : wrap64 (C1 : Int) = (C1 : Int)) (a2 : bits BinOp.and IntKind.u8 (b2 : Int) 192 = 128) (f2 : bits BinOp.and IntKind.u8 (b2 : Int) 63 = (p2 : Int)) (u2 : wrap64 (p2 : Int) = (p2 : Int)) (v2 : (64 : Int) * (C1 : Int) + (p2 : Int) = (C2 : Int)) (m2 : wrap64 ((64 : Int) * (C1 : Int)) = (64 : Int) * (C1 : Int)) (t2 : wrap64 (C2 : Int) = (C2 : Int)) (a3 : bits BinOp.and IntKind.u8 (b3 : Int) 192 = 128) (f3 : bits BinOp.and IntKind.u8 (b3 : Int) 63 = (p3 : Int)) (u3 : wrap64 (p3 : Int) = (p3 : Int)) (v3 : (64 : Int) * (C2 : Int) + (p3 : Int) = (C3 : Int)) (m3 : wrap64 ((64 : Int) * (C2 : Int)) = (64 : Int) * (C2 : Int)) (t3 : wrap64 (C3 : Int) = (C3 : Int)) (x0 : decide ((C3 : Int) < 65536) = false) (x1 : decide ((1114111 : Int) < (C3 : Int)) = true) : Calls Tryz.prog 62 #[.string T] w (FirP 0 w) := by
  go_enter Tryz.func62, Tryz.ntmps62
  go_wp2_with fail
  refine wp_loop_rounds 4 ?_
  rw [rounds_succ]
  go_wp2_with fail
  rw [rounds_succ]
  go_wp2_with fail
  rw [rounds_succ]
  go_wp2_with fail
  rw [rounds_succ]
  go_wp2_with fail
  go_ret2
  exact ⟨⟨_, rfl⟩, rfl⟩
set_option maxRecDepth 100000 in
set_option maxHeartbeats 1000000 in
theorem fir_4_over (T : ByteArray) (w : World) (b0 b1 b2 b3 c1 c2 c3 p1 C1 p2 C2 p3 C3 : Nat) (s0 : 0 < T.size) (e0 : T[0].toNat = b0) (s1 : 1 < T.size) (e1 : T[1].toNat = b1) (j1 : (1 : Int) < (T.size : Int)) (s2 : 2 < T.size) (e2 : T[2].toNat = b2) (j2 : (2 : Int) < (T.size : Int)) (s3 : 3 < T.size) (e3 : T[3].toNat = b3) (j3 : (3 : Int) < (T.size : Int)) (w0 : wrap64 (b0 : Int) = (b0 : Int)) (q1 : (128 : Int) ≤ (b0 : Int)) (q2 : ¬ (b0 : Int) < 194) (q3 : ¬ (244 : Int) < (b0 : Int)) (q4 : (224 : Int) ≤ (b0 : Int)) (q5 : (240 : Int) ≤ (b0 : Int)) (a31 : bits BinOp.and IntKind.i64 (b0 : Int) 31 = (c1 : Int)) (a15 : bits BinOp.and IntKind.i64 (c1 : Int) 15 = (c2 : Int)) (a7 : bits BinOp.and IntKind.i64 (c2 : Int) 7 = (c3 : Int)) (q6 : ¬ (T.size : Int) < 4) (a1 : bits BinOp.and IntKind.u8 (b1 : Int) 192 = 128) (f1 : bits BinOp.and IntKind.u8 (b1 : Int) 63 = (p1 : Int)) (u1 : wrap64 (p1 : Int) = (p1 : Int)) (v1 : (64 : Int) * (c3 : Int) + (p1 : Int) = (C1 : Int)) (m1 : wrap64 ((64 : Int) * (c3 : Int)) = (64 : Int) * (c3 : Int)) (t1 : wrap64 (C1 : Int) = (C1 : Int)) (a2 : bits BinOp.and IntKind.u8 (b2 : Int) 192 = 128) (f2 : bits BinOp.and IntKind.u8 (b2 : Int) 63 = (p2 : Int)) (u2 : wrap64 (p2 : Int) = (p2 : Int)) (v2 : (64 : Int) * (C1 : Int) + (p2 : Int) = (C2 : Int)) (m2 : wrap64 ((64 : Int) * (C1 : Int)) = (64 : Int) * (C1 : Int)) (t2 : wrap64 (C2 : Int) = (C2 : Int)) (a3 : bits BinOp.and IntKind.u8 (b3 : Int) 192 = 128) (f3 : bits BinOp.and IntKind.u8 (b3 : Int) 63 = (p3 : Int)) (u3 : wrap64 (p3 : Int) = (p3 : Int)) (v3 : (64 : Int) * (C2 : Int) + (p3 : Int) = (C3 : Int)) (m3 : wrap64 ((64 : Int) * (C2 : Int)) = (64 : Int) * (C2 : Int)) (t3 : wrap64 (C3 : Int) = (C3 : Int)) (x0 : decide ((C3 : Int) < 65536) = false) (x1 : decide ((1114111 : Int) < (C3 : Int)) = false) (x2 : decide ((55296 : Int) ≤ (C3 : Int)) = true) (x3 : decide ((C3 : Int) ≤ 57343) = false) : Calls Tryz.prog 62 #[.string T] w (FirP 4 w) := by
  go_enter Tryz.func62, Tryz.ntmps62
  go_wp2_with fail
  refine wp_loop_rounds 4 ?_
  rw [rounds_succ]
  go_wp2_with fail
  rw [rounds_succ]
  go_wp2_with fail
  rw [rounds_succ]
  go_wp2_with fail
  rw [rounds_succ]
  go_wp2_with fail
  go_ret2
  exact ⟨⟨_, rfl⟩, rfl⟩
end Go.Proofs.YtomociaidccfmaaGreatDoor

namespace Go.Proofs.YtomociaidccfmaaGreatDoor
open Go.RowKit

theorem get_at (T : ByteArray) (i : Nat) (h : i < T.size) : T.get! i = T[i] := by
  rcases T with ⟨⟨l⟩⟩
  have h' : i < l.length := h
  simp [ByteArray.get!, ByteArray.getElem_eq_getElem_data, h']
theorem rFirst_2 (T : ByteArray) (w : World) (b0 : Nat) (s0 : 0 < T.size) (e0 : T[0].toNat = b0) (h1 : 194 ≤ b0) (h2 : b0 ≤ 223) : Calls Tryz.prog 62 #[.string T] w (FirP ((if 2 ≤ T.size ∧ (T.get! 1).toNat / 64 = 2 then 2 else 0 : Nat) : Int) w) := by
  by_cases hz : 2 ≤ T.size
  · have s1 : 1 < T.size := by omega
    obtain ⟨b1, e1⟩ : ∃ b1, T[1].toNat = b1 := ⟨_, rfl⟩
    have l1 : b1 < 256 := by rw [← e1]; exact UInt8.toNat_lt _
    rw [get_at T 1 s1, e1]
    by_cases k1 : b1 / 64 = 2
    · rw [if_pos ⟨hz, k1⟩]
      exact fir_2_under T w b0 b1 (b0 % 32) (b1 % 64) (64 * (b0 % 32) + b1 % 64) s0 e0 s1 e1 (by omega) (wS (by omega)) (by omega) (by omega) (by omega) (by omega) (by omega) (and31 b0 (by omega)) (by omega) ((and192 b1 l1).trans (by rw [k1]; rfl)) (and63 b1 l1) (wS (by omega)) (by omega) (wM (by omega)) (wS (by omega)) (decide_eq_false (by omega)) (decide_eq_false (by omega)) (decide_eq_false (by omega))
    · rw [if_neg (fun e => k1 e.2)]
      exact fir_2_1 T w b0 b1 (b0 % 32) (b1 / 64 * 64) s0 e0 s1 e1 (by omega) (wS (by omega)) (by omega) (by omega) (by omega) (by omega) (by omega) (and31 b0 (by omega)) (by omega) (and192 b1 l1) (by omega)
  · rw [if_neg (fun e => hz e.1)]
    exact fir_2_size T w b0 (b0 % 32) s0 e0 (wS (by omega)) (by omega) (by omega) (by omega) (by omega) (by omega) (and31 b0 (by omega)) (by omega)
theorem rFirst_3 (T : ByteArray) (w : World) (b0 : Nat) (s0 : 0 < T.size) (e0 : T[0].toNat = b0) (h1 : 224 ≤ b0) (h2 : b0 ≤ 239) : Calls Tryz.prog 62 #[.string T] w (FirP ((if (3 ≤ T.size ∧ (T.get! 1).toNat / 64 = 2 ∧ (T.get! 2).toNat / 64 = 2) ∧ 2048 ≤ ch3 b0 (T.get! 1).toNat (T.get! 2).toNat ∧ ¬ (55296 ≤ ch3 b0 (T.get! 1).toNat (T.get! 2).toNat ∧ ch3 b0 (T.get! 1).toNat (T.get! 2).toNat ≤ 57343) then 3 else 0 : Nat) : Int) w) := by
  by_cases hz : 3 ≤ T.size
  · have s1 : 1 < T.size := by omega
    obtain ⟨b1, e1⟩ : ∃ b1, T[1].toNat = b1 := ⟨_, rfl⟩
    have l1 : b1 < 256 := by rw [← e1]; exact UInt8.toNat_lt _
    have s2 : 2 < T.size := by omega
    obtain ⟨b2, e2⟩ : ∃ b2, T[2].toNat = b2 := ⟨_, rfl⟩
    have l2 : b2 < 256 := by rw [← e2]; exact UInt8.toNat_lt _
    rw [get_at T 1 s1, e1, get_at T 2 s2, e2]
    by_cases k1 : b1 / 64 = 2
    · by_cases k2 : b2 / 64 = 2
      · have hch : 64 * (64 * (b0 % 32 % 16) + b1 % 64) + b2 % 64 = ch3 b0 b1 b2 := by unfold ch3; omega
        have hcl : ch3 b0 b1 b2 < 65536 := by rw [← hch]; omega
        by_cases x : 2048 ≤ ch3 b0 b1 b2
        · by_cases y : 55296 ≤ ch3 b0 b1 b2
          · by_cases y2 : ch3 b0 b1 b2 ≤ 57343
            · rw [if_neg (fun e => e.2.2 ⟨y, y2⟩)]
              exact fir_3_half T w b0 b1 b2 (b0 % 32) (b0 % 32 % 16) (b1 % 64) (64 * (b0 % 32 % 16) + b1 % 64) (b2 % 64) (ch3 b0 b1 b2) s0 e0 s1 e1 (by omega) s2 e2 (by omega) (wS (by omega)) (by omega) (by omega) (by omega) (by omega) (by omega) (and31 b0 (by omega)) (and15 _ (by omega)) (by omega) ((and192 b1 l1).trans (by rw [k1]; rfl)) (and63 b1 l1) (wS (by omega)) (by omega) (wM (by omega)) (wS (by omega)) ((and192 b2 l2).trans (by rw [k2]; rfl)) (and63 b2 l2) (wS (by omega)) (by have := hch; omega) (wM (by omega)) (wS (by omega)) (decide_eq_false (by omega)) (decide_eq_false (by omega)) (decide_eq_true (by omega)) (decide_eq_true (by omega))
            · rw [if_pos ⟨⟨hz, k1, k2⟩, x, fun e => y2 e.2⟩]
              exact fir_3_over T w b0 b1 b2 (b0 % 32) (b0 % 32 % 16) (b1 % 64) (64 * (b0 % 32 % 16) + b1 % 64) (b2 % 64) (ch3 b0 b1 b2) s0 e0 s1 e1 (by omega) s2 e2 (by omega) (wS (by omega)) (by omega) (by omega) (by omega) (by omega) (by omega) (and31 b0 (by omega)) (and15 _ (by omega)) (by omega) ((and192 b1 l1).trans (by rw [k1]; rfl)) (and63 b1 l1) (wS (by omega)) (by omega) (wM (by omega)) (wS (by omega)) ((and192 b2 l2).trans (by rw [k2]; rfl)) (and63 b2 l2) (wS (by omega)) (by have := hch; omega) (wM (by omega)) (wS (by omega)) (decide_eq_false (by omega)) (decide_eq_false (by omega)) (decide_eq_true (by omega)) (decide_eq_false (by omega))
          · rw [if_pos ⟨⟨hz, k1, k2⟩, x, fun e => y e.1⟩]
            exact fir_3_under T w b0 b1 b2 (b0 % 32) (b0 % 32 % 16) (b1 % 64) (64 * (b0 % 32 % 16) + b1 % 64) (b2 % 64) (ch3 b0 b1 b2) s0 e0 s1 e1 (by omega) s2 e2 (by omega) (wS (by omega)) (by omega) (by omega) (by omega) (by omega) (by omega) (and31 b0 (by omega)) (and15 _ (by omega)) (by omega) ((and192 b1 l1).trans (by rw [k1]; rfl)) (and63 b1 l1) (wS (by omega)) (by omega) (wM (by omega)) (wS (by omega)) ((and192 b2 l2).trans (by rw [k2]; rfl)) (and63 b2 l2) (wS (by omega)) (by have := hch; omega) (wM (by omega)) (wS (by omega)) (decide_eq_false (by omega)) (decide_eq_false (by omega)) (decide_eq_false (by omega))
        · rw [if_neg (fun e => x e.2.1)]
          exact fir_3_least T w b0 b1 b2 (b0 % 32) (b0 % 32 % 16) (b1 % 64) (64 * (b0 % 32 % 16) + b1 % 64) (b2 % 64) (ch3 b0 b1 b2) s0 e0 s1 e1 (by omega) s2 e2 (by omega) (wS (by omega)) (by omega) (by omega) (by omega) (by omega) (by omega) (and31 b0 (by omega)) (and15 _ (by omega)) (by omega) ((and192 b1 l1).trans (by rw [k1]; rfl)) (and63 b1 l1) (wS (by omega)) (by omega) (wM (by omega)) (wS (by omega)) ((and192 b2 l2).trans (by rw [k2]; rfl)) (and63 b2 l2) (wS (by omega)) (by have := hch; omega) (wM (by omega)) (wS (by omega)) (decide_eq_true (by omega))
      · rw [if_neg (fun e => k2 e.1.2.2)]
        exact fir_3_2 T w b0 b1 b2 (b0 % 32) (b0 % 32 % 16) (b1 % 64) (64 * (b0 % 32 % 16) + b1 % 64) (b2 / 64 * 64) s0 e0 s1 e1 (by omega) s2 e2 (by omega) (wS (by omega)) (by omega) (by omega) (by omega) (by omega) (by omega) (and31 b0 (by omega)) (and15 _ (by omega)) (by omega) ((and192 b1 l1).trans (by rw [k1]; rfl)) (and63 b1 l1) (wS (by omega)) (by omega) (wM (by omega)) (wS (by omega)) (and192 b2 l2) (by omega)
    · rw [if_neg (fun e => k1 e.1.2.1)]
      exact fir_3_1 T w b0 b1 (b0 % 32) (b0 % 32 % 16) (b1 / 64 * 64) s0 e0 s1 e1 (by omega) (wS (by omega)) (by omega) (by omega) (by omega) (by omega) (by omega) (and31 b0 (by omega)) (and15 _ (by omega)) (by omega) (and192 b1 l1) (by omega)
  · rw [if_neg (fun e => hz e.1.1)]
    exact fir_3_size T w b0 (b0 % 32) (b0 % 32 % 16) s0 e0 (wS (by omega)) (by omega) (by omega) (by omega) (by omega) (by omega) (and31 b0 (by omega)) (and15 _ (by omega)) (by omega)
theorem rFirst_4 (T : ByteArray) (w : World) (b0 : Nat) (s0 : 0 < T.size) (e0 : T[0].toNat = b0) (h1 : 240 ≤ b0) (h2 : b0 ≤ 244) : Calls Tryz.prog 62 #[.string T] w (FirP ((if (4 ≤ T.size ∧ (T.get! 1).toNat / 64 = 2 ∧ (T.get! 2).toNat / 64 = 2 ∧ (T.get! 3).toNat / 64 = 2) ∧ 65536 ≤ ch4 b0 (T.get! 1).toNat (T.get! 2).toNat (T.get! 3).toNat ∧ ch4 b0 (T.get! 1).toNat (T.get! 2).toNat (T.get! 3).toNat ≤ 1114111 then 4 else 0 : Nat) : Int) w) := by
  by_cases hz : 4 ≤ T.size
  · have s1 : 1 < T.size := by omega
    obtain ⟨b1, e1⟩ : ∃ b1, T[1].toNat = b1 := ⟨_, rfl⟩
    have l1 : b1 < 256 := by rw [← e1]; exact UInt8.toNat_lt _
    have s2 : 2 < T.size := by omega
    obtain ⟨b2, e2⟩ : ∃ b2, T[2].toNat = b2 := ⟨_, rfl⟩
    have l2 : b2 < 256 := by rw [← e2]; exact UInt8.toNat_lt _
    have s3 : 3 < T.size := by omega
    obtain ⟨b3, e3⟩ : ∃ b3, T[3].toNat = b3 := ⟨_, rfl⟩
    have l3 : b3 < 256 := by rw [← e3]; exact UInt8.toNat_lt _
    rw [get_at T 1 s1, e1, get_at T 2 s2, e2, get_at T 3 s3, e3]
    by_cases k1 : b1 / 64 = 2
    · by_cases k2 : b2 / 64 = 2
      · by_cases k3 : b3 / 64 = 2
        · have hch : 64 * (64 * (64 * (b0 % 32 % 16 % 8) + b1 % 64) + b2 % 64) + b3 % 64 = ch4 b0 b1 b2 b3 := by unfold ch4; omega
          have hcl : ch4 b0 b1 b2 b3 < 2097152 := by rw [← hch]; omega
          by_cases x : 65536 ≤ ch4 b0 b1 b2 b3
          · by_cases y : ch4 b0 b1 b2 b3 ≤ 1114111
            · rw [if_pos ⟨⟨hz, k1, k2, k3⟩, x, y⟩]
              exact fir_4_over T w b0 b1 b2 b3 (b0 % 32) (b0 % 32 % 16) (b0 % 32 % 16 % 8) (b1 % 64) (64 * (b0 % 32 % 16 % 8) + b1 % 64) (b2 % 64) (64 * (64 * (b0 % 32 % 16 % 8) + b1 % 64) + b2 % 64) (b3 % 64) (ch4 b0 b1 b2 b3) s0 e0 s1 e1 (by omega) s2 e2 (by omega) s3 e3 (by omega) (wS (by omega)) (by omega) (by omega) (by omega) (by omega) (by omega) (and31 b0 (by omega)) (and15 _ (by omega)) (and7 _ (by omega)) (by omega) ((and192 b1 l1).trans (by rw [k1]; rfl)) (and63 b1 l1) (wS (by omega)) (by omega) (wM (by omega)) (wS (by omega)) ((and192 b2 l2).trans (by rw [k2]; rfl)) (and63 b2 l2) (wS (by omega)) (by omega) (wM (by omega)) (wS (by omega)) ((and192 b3 l3).trans (by rw [k3]; rfl)) (and63 b3 l3) (wS (by omega)) (by have := hch; omega) (wM (by omega)) (wS (by omega)) (decide_eq_false (by omega)) (decide_eq_false (by omega)) (decide_eq_true (by omega)) (decide_eq_false (by omega))
            · rw [if_neg (fun e => y e.2.2)]
              exact fir_4_most T w b0 b1 b2 b3 (b0 % 32) (b0 % 32 % 16) (b0 % 32 % 16 % 8) (b1 % 64) (64 * (b0 % 32 % 16 % 8) + b1 % 64) (b2 % 64) (64 * (64 * (b0 % 32 % 16 % 8) + b1 % 64) + b2 % 64) (b3 % 64) (ch4 b0 b1 b2 b3) s0 e0 s1 e1 (by omega) s2 e2 (by omega) s3 e3 (by omega) (wS (by omega)) (by omega) (by omega) (by omega) (by omega) (by omega) (and31 b0 (by omega)) (and15 _ (by omega)) (and7 _ (by omega)) (by omega) ((and192 b1 l1).trans (by rw [k1]; rfl)) (and63 b1 l1) (wS (by omega)) (by omega) (wM (by omega)) (wS (by omega)) ((and192 b2 l2).trans (by rw [k2]; rfl)) (and63 b2 l2) (wS (by omega)) (by omega) (wM (by omega)) (wS (by omega)) ((and192 b3 l3).trans (by rw [k3]; rfl)) (and63 b3 l3) (wS (by omega)) (by have := hch; omega) (wM (by omega)) (wS (by omega)) (decide_eq_false (by omega)) (decide_eq_true (by omega))
          · rw [if_neg (fun e => x e.2.1)]
            exact fir_4_least T w b0 b1 b2 b3 (b0 % 32) (b0 % 32 % 16) (b0 % 32 % 16 % 8) (b1 % 64) (64 * (b0 % 32 % 16 % 8) + b1 % 64) (b2 % 64) (64 * (64 * (b0 % 32 % 16 % 8) + b1 % 64) + b2 % 64) (b3 % 64) (ch4 b0 b1 b2 b3) s0 e0 s1 e1 (by omega) s2 e2 (by omega) s3 e3 (by omega) (wS (by omega)) (by omega) (by omega) (by omega) (by omega) (by omega) (and31 b0 (by omega)) (and15 _ (by omega)) (and7 _ (by omega)) (by omega) ((and192 b1 l1).trans (by rw [k1]; rfl)) (and63 b1 l1) (wS (by omega)) (by omega) (wM (by omega)) (wS (by omega)) ((and192 b2 l2).trans (by rw [k2]; rfl)) (and63 b2 l2) (wS (by omega)) (by omega) (wM (by omega)) (wS (by omega)) ((and192 b3 l3).trans (by rw [k3]; rfl)) (and63 b3 l3) (wS (by omega)) (by have := hch; omega) (wM (by omega)) (wS (by omega)) (decide_eq_true (by omega))
        · rw [if_neg (fun e => k3 e.1.2.2.2)]
          exact fir_4_3 T w b0 b1 b2 b3 (b0 % 32) (b0 % 32 % 16) (b0 % 32 % 16 % 8) (b1 % 64) (64 * (b0 % 32 % 16 % 8) + b1 % 64) (b2 % 64) (64 * (64 * (b0 % 32 % 16 % 8) + b1 % 64) + b2 % 64) (b3 / 64 * 64) s0 e0 s1 e1 (by omega) s2 e2 (by omega) s3 e3 (by omega) (wS (by omega)) (by omega) (by omega) (by omega) (by omega) (by omega) (and31 b0 (by omega)) (and15 _ (by omega)) (and7 _ (by omega)) (by omega) ((and192 b1 l1).trans (by rw [k1]; rfl)) (and63 b1 l1) (wS (by omega)) (by omega) (wM (by omega)) (wS (by omega)) ((and192 b2 l2).trans (by rw [k2]; rfl)) (and63 b2 l2) (wS (by omega)) (by omega) (wM (by omega)) (wS (by omega)) (and192 b3 l3) (by omega)
      · rw [if_neg (fun e => k2 e.1.2.2.1)]
        exact fir_4_2 T w b0 b1 b2 (b0 % 32) (b0 % 32 % 16) (b0 % 32 % 16 % 8) (b1 % 64) (64 * (b0 % 32 % 16 % 8) + b1 % 64) (b2 / 64 * 64) s0 e0 s1 e1 (by omega) s2 e2 (by omega) (wS (by omega)) (by omega) (by omega) (by omega) (by omega) (by omega) (and31 b0 (by omega)) (and15 _ (by omega)) (and7 _ (by omega)) (by omega) ((and192 b1 l1).trans (by rw [k1]; rfl)) (and63 b1 l1) (wS (by omega)) (by omega) (wM (by omega)) (wS (by omega)) (and192 b2 l2) (by omega)
    · rw [if_neg (fun e => k1 e.1.2.1)]
      exact fir_4_1 T w b0 b1 (b0 % 32) (b0 % 32 % 16) (b0 % 32 % 16 % 8) (b1 / 64 * 64) s0 e0 s1 e1 (by omega) (wS (by omega)) (by omega) (by omega) (by omega) (by omega) (by omega) (and31 b0 (by omega)) (and15 _ (by omega)) (and7 _ (by omega)) (by omega) (and192 b1 l1) (by omega)
  · rw [if_neg (fun e => hz e.1.1)]
    exact fir_4_size T w b0 (b0 % 32) (b0 % 32 % 16) (b0 % 32 % 16 % 8) s0 e0 (wS (by omega)) (by omega) (by omega) (by omega) (by omega) (by omega) (and31 b0 (by omega)) (and15 _ (by omega)) (and7 _ (by omega)) (by omega)
def firN (T : ByteArray) : Nat := firM T.size (T.get! 0).toNat (T.get! 1).toNat (T.get! 2).toNat (T.get! 3).toNat
theorem rFirst_calls (T : ByteArray) (w : World) (s0 : 0 < T.size) : Calls Tryz.prog 62 #[.string T] w (FirP (firN T : Int) w) := by
  obtain ⟨b0, e0⟩ : ∃ b0, T[0].toNat = b0 := ⟨_, rfl⟩
  have l0 : b0 < 256 := by rw [← e0]; exact UInt8.toNat_lt _
  rw [firN, get_at T 0 s0, e0]
  by_cases h1 : b0 < 128
  · rw [fm_ascii h1]
    exact fir_ascii T w b0 s0 e0 (wS (by omega)) (by omega) (by omega) (decide_eq_false (by omega)) (decide_eq_false (by omega)) (decide_eq_false (by omega))
  · by_cases h2 : b0 < 194
    · rw [fm_low (by omega) h2]
      exact fir_low T w b0 s0 e0 (wS (by omega)) (by omega) (by omega)
    · by_cases h3 : b0 < 224
      · rw [fm_2 (by omega) h3]
        exact rFirst_2 T w b0 s0 e0 (by omega) (by omega)
      · by_cases h4 : b0 < 240
        · rw [fm_3 (by omega) h4]
          exact rFirst_3 T w b0 s0 e0 (by omega) (by omega)
        · by_cases h5 : b0 ≤ 244
          · rw [fm_4 (by omega) h5]
            exact rFirst_4 T w b0 s0 e0 (by omega) (by omega)
          · rw [fm_high (by omega)]
            exact fir_high T w b0 s0 e0 (wS (by omega)) (by omega) (by omega) (by omega)
end Go.Proofs.YtomociaidccfmaaGreatDoor

namespace Go.Proofs.YtomociaidccfmaaGreatDoor
open Go.RowKit

theorem ext_get (s : ByteArray) (p i : Nat) : (s.extract p s.size).get! i = s.get! (p + i) := by
  show (s.extract p s.size).data[i]! = s.data[p + i]!
  rw [ByteArray.data_extract, getElem!_def, getElem!_def, Array.getElem?_extract]
  by_cases h : i < s.data.size - p
  · rw [if_pos (by show i < min s.data.size s.data.size - p; omega)]
  · rw [if_neg (by show ¬ i < min s.data.size s.data.size - p; omega), Array.getElem?_eq_none (xs := s.data) (by omega)]
theorem size_ext (s : ByteArray) (p : Nat) : (s.extract p s.size).size = s.size - p := by
  show (s.extract p s.size).data.size = _
  rw [ByteArray.data_extract, Array.size_extract]
  show min s.data.size s.data.size - p = s.data.size - p
  omega
theorem decode_ext (s : ByteArray) (p : Nat) : Utf8.decode (s.extract p s.size) 0 = Utf8.decode s p := by
  have hk : ∀ k : Nat, decide (k < (s.extract p s.size).size) = decide (p + k < s.size) := fun k => decide_eq_decide.2 (by rw [size_ext]; omega)
  simp only [Utf8.decode, ext_get, Nat.zero_add, hk]
theorem ext_ext (s : ByteArray) (p n : Nat) : (s.extract p s.size).extract n (s.extract p s.size).size = s.extract (p + n) s.size := by
  apply ByteArray.ext
  rw [ByteArray.data_extract, size_ext, ByteArray.data_extract, ByteArray.data_extract, Array.extract_extract]
  congr 1
  show min (p + (s.data.size - p)) s.data.size = s.data.size
  omega
theorem ext_all2 (s : ByteArray) : s.extract 0 s.size = s := by
  apply ByteArray.ext
  rw [ByteArray.data_extract]
  exact Array.extract_size
theorem repB_rp (T : ByteArray) : repB T = rp T.size (T.get! 0).toNat (T.get! 1).toNat (T.get! 2).toNat := by
  by_cases h : 3 ≤ T.size
  · rw [repB, decide_eq_true h, Bool.true_and, rp, Lib.toList_data, Lib.extract_data]
    rcases T with ⟨⟨l⟩⟩
    match l, h with
    | x0 :: x1 :: x2 :: r, h =>
      have q : ∀ (x : UInt8) (n : Nat) (c : UInt8), c.toNat = n → ((x = c) ↔ x.toNat = n) := fun x n c hc => ⟨fun e => by rw [e, hc], fun e => UInt8.toNat_inj.1 (by rw [e, hc])⟩
      rw [Bool.eq_iff_iff, beq_iff_eq, decide_eq_true_eq]
      show [x0, x1, x2] = [239, 191, 189] ↔ (_ ∧ x0.toNat = 239 ∧ x1.toNat = 191 ∧ x2.toNat = 189)
      simp only [List.cons.injEq, and_true]
      rw [q x0 239 239 rfl, q x1 191 191 rfl, q x2 189 189 rfl]
      exact ⟨fun e => ⟨h, e⟩, fun e => e.2⟩
  · rw [repB, decide_eq_false h, rp, decide_eq_false (fun e => h e.1)]
    rfl
theorem firN_bad (s : ByteArray) (p : Nat) : firN (s.extract p s.size) = if badU s p then 0 else (Utf8.decode s p).2 := by
  rw [firN, firM, ← repB_rp, ← decode_dec1, decode_ext, badU]
theorem dec1_le {z b0 b1 b2 b3 : Nat} (hz : 0 < z) : (dec1 z b0 b1 b2 b3).2 ≤ z := by
  unfold dec1
  split
  · exact hz
  · split
    · rename_i h
      simp only [Bool.and_eq_true, decide_eq_true_eq] at h
      split
      · exact h.2.1
      · exact hz
    · split
      · rename_i h
        simp only [Bool.and_eq_true, decide_eq_true_eq] at h
        split
        · exact h.2.1
        · exact hz
      · split
        · rename_i h
          simp only [Bool.and_eq_true, decide_eq_true_eq] at h
          split
          · exact h.2.1
          · exact hz
        · exact hz
set_option maxRecDepth 100000 in
theorem rUtf_calls (s : ByteArray) (w : World) : Calls Tryz.prog 43 #[.string s] w (BolP (utfW s 0) w) := by
  obtain ⟨U, hU⟩ : ∃ U, U = utfW s 0 := ⟨_, rfl⟩
  rw [← hU]
  have HU := Lib.hid hU
  clear hU
  go_enter Tryz.func43, Tryz.ntmps43
  go_wp2_with fail
  go_loopw [0] (fun x wr => ∃ (T : ByteArray) (p : Nat), x = .string T ∧ T = s.extract p s.size ∧ p ≤ s.size ∧ utfW s 0 = utfW s p ∧ wr = w) (fun x _ => match x with | .string T => T.size | _ => 0)
  case atStart => exact ⟨s, 0, rfl, (ext_all2 s).symm, Nat.zero_le _, rfl, rfl⟩
  case round =>
    obtain ⟨T, p, rfl, hT, hp, hu, rfl⟩ := hrel
    have HT := Lib.hid hT
    have HW := Lib.hid hu
    have HSz : Hid (T.size = s.size - p) := Lib.hid (by rw [hT, size_ext])
    clear hT hu
    by_cases h0 : T.size = 0
    · have hE : T.toList.isEmpty = true := by rw [Lib.toList_data, List.isEmpty_iff]; exact List.eq_nil_of_length_eq_zero (by rw [← Lib.size_eq]; exact h0)
      have hE2 : T.toList = [] := by rw [Lib.toList_data]; exact List.eq_nil_of_length_eq_zero (by rw [← Lib.size_eq]; exact h0)
      have HF : Hid (U = true) := Lib.hid (by rw [HU.out, HW.out, utfW, if_neg (by have := HSz.out; omega)])
      go_wp2_with fail
      go_ret
      exact ⟨by rw [HF.out]; rfl, Below.refl _ _⟩
    · have hE2 : ¬ T.toList = [] := by intro h; rw [Lib.toList_data] at h; have := Lib.size_eq T; rw [h, List.length_nil] at this; exact h0 this
      have hE : T.toList.isEmpty = false := by rw [List.isEmpty_eq_false_iff]; exact hE2
      have HN : Hid (firN T = if badU s p then 0 else (Utf8.decode s p).2) := Lib.hid (by rw [HT.out]; exact firN_bad s p)
      have HLe : Hid ((Utf8.decode s p).2 ≤ T.size) := Lib.hid (by rw [← decode_ext, ← HT.out, decode_dec1]; exact dec1_le (by omega))
      have HPos := Lib.hid (decode_pos s p)
      go_wp2_with fail
      refine (rFirst_calls T _ (by omega)).mono ?_
      rintro o w1 ⟨⟨c, rfl⟩, rfl⟩
      cases hb : badU s p with
      | true =>
        have HF : Hid (firN T = 0) := Lib.hid (by rw [HN.out, hb]; rfl)
        have HV : Hid (U = false) := Lib.hid (by rw [HU.out, HW.out, utfW, if_pos (by have := HSz.out; omega), hb]; rfl)
        rw [HF.out]
        go_wp2_with fail
        go_ret
        exact ⟨by rw [HV.out]; rfl, Below.refl _ _⟩
      | false =>
        obtain ⟨n, hn⟩ : ∃ n, n = (Utf8.decode s p).2 := ⟨_, rfl⟩
        have HF : Hid (firN T = n) := Lib.hid (by rw [HN.out, hb, hn]; rfl)
        have HV : Hid (utfW s 0 = utfW s (p + n)) := Lib.hid (by rw [HW.out, utfW, if_pos (by have := HSz.out; omega), hb, hn]; rfl)
        have hn1 : 1 ≤ n := by rw [hn]; exact HPos.out
        have hn2 : n ≤ T.size := by rw [hn]; exact HLe.out
        rw [HF.out]
        have g1 : ¬ (n : Int) = 0 := by omega
        have g2 : (n : Int) ≤ (T.size : Int) := by omega
        clear hb hn
        go_wp2_with fail
        go_roundw
        case rel => exact ⟨_, p + n, rfl, by rw [HT.out]; exact ext_ext s p n, by have := HSz.out; omega, HV.out, by first | rfl | trivial⟩
        case measure =>
          show (T.extract n T.size).size < T.size
          rw [size_ext]
          omega
end Go.Proofs.YtomociaidccfmaaGreatDoor
