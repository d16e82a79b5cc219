/- Characters: how many bytes the first one has. -/
import Derived.Test.YtcofhgdfoamhpaaGreatDoorMo
namespace Go.Proofs.YtcofhgdfoamhpaaGreatDoor
open Go.RowKit

def dec1 (z b0 b1 b2 b3 : Nat) : Nat × Nat :=
  if b0 < 128 then (b0, 1)
  else if b0 / 32 == 6 && (decide (1 < z) && b1 / 64 == 2) then
    if (b0 % 32) * 64 + b1 % 64 ≥ 128 then ((b0 % 32) * 64 + b1 % 64, 2) else (65533, 1)
  else if b0 / 16 == 14 && (decide (1 < z) && b1 / 64 == 2) && (decide (2 < z) && b2 / 64 == 2) then
    if decide ((b0 % 16) * 4096 + (b1 % 64) * 64 + b2 % 64 ≥ 2048) && Utf8.valid (((b0 % 16) * 4096 + (b1 % 64) * 64 + b2 % 64 : Nat) : Int) then ((b0 % 16) * 4096 + (b1 % 64) * 64 + b2 % 64, 3) else (65533, 1)
  else if b0 / 8 == 30 && (decide (1 < z) && b1 / 64 == 2) && (decide (2 < z) && b2 / 64 == 2) && (decide (3 < z) && b3 / 64 == 2) then
    if decide ((b0 % 8) * 262144 + (b1 % 64) * 4096 + (b2 % 64) * 64 + b3 % 64 ≥ 65536) && Utf8.valid (((b0 % 8) * 262144 + (b1 % 64) * 4096 + (b2 % 64) * 64 + b3 % 64 : Nat) : Int) then ((b0 % 8) * 262144 + (b1 % 64) * 4096 + (b2 % 64) * 64 + b3 % 64, 4) else (65533, 1)
  else (65533, 1)
theorem decode_dec1 (T : ByteArray) : Utf8.decode T 0 = dec1 T.size (T.get! 0).toNat (T.get! 1).toNat (T.get! 2).toNat (T.get! 3).toNat := by
  simp only [Utf8.decode, dec1, Nat.zero_add, Utf8.runeError]
def rp (z b0 b1 b2 : Nat) : Bool := decide (3 ≤ z ∧ b0 = 239 ∧ b1 = 191 ∧ b2 = 189)
def firM (z b0 b1 b2 b3 : Nat) : Nat := if decide ((dec1 z b0 b1 b2 b3).1 = 65533) && !rp z b0 b1 b2 then 0 else (dec1 z b0 b1 b2 b3).2
theorem fm_err {z b0 b1 b2 b3 : Nat} (h : dec1 z b0 b1 b2 b3 = (65533, 1)) (hr : rp z b0 b1 b2 = false) : firM z b0 b1 b2 b3 = 0 := by rw [firM, h, hr]; rfl
theorem fm_ok {z b0 b1 b2 b3 c n : Nat} (h : dec1 z b0 b1 b2 b3 = (c, n)) (hr : c = 65533 → rp z b0 b1 b2 = true) : firM z b0 b1 b2 b3 = n := by
  rw [firM, h]
  by_cases hc : c = 65533
  · rw [hr hc]; simp
  · simp [hc]
theorem rp_no {z b0 b1 b2 : Nat} (h : b0 ≠ 239) : rp z b0 b1 b2 = false := decide_eq_false (fun e => h e.2.1)
theorem fm_ascii {z b0 b1 b2 b3 : Nat} (h : b0 < 128) : firM z b0 b1 b2 b3 = 1 := fm_ok (c := b0) (by rw [dec1, if_pos h]) (fun e => by omega)
theorem fm_low {z b0 b1 b2 b3 : Nat} (h : 128 ≤ b0) (h2 : b0 < 194) : firM z b0 b1 b2 b3 = 0 := by
  refine fm_err ?_ (rp_no (by omega))
  have e1 : (b0 / 16 == 14) = false := beq_eq_false_iff_ne.2 (by omega)
  have e2 : (b0 / 8 == 30) = false := beq_eq_false_iff_ne.2 (by omega)
  rw [dec1, if_neg (by omega), e1, e2]
  simp only [Bool.false_and, Bool.false_eq_true, if_false]
  split
  · rename_i h3
    rw [Bool.and_eq_true, beq_iff_eq] at h3
    rw [if_neg (by omega)]
  · rfl
theorem valid_no {c : Nat} (h : 55296 ≤ c ∧ c ≤ 57343 ∨ 1114111 < c) : Utf8.valid (c : Int) = false := by
  simp only [Utf8.valid, Bool.or_eq_false_iff, Bool.and_eq_false_iff, decide_eq_false_iff_not]
  omega
theorem valid_yes {c : Nat} (h : ¬ (55296 ≤ c ∧ c ≤ 57343)) (h2 : c ≤ 1114111) : Utf8.valid (c : Int) = true := by
  simp only [Utf8.valid, Bool.or_eq_true, Bool.and_eq_true, decide_eq_true_eq]
  omega
theorem fm_high {z b0 b1 b2 b3 : Nat} (h : 244 < b0) : firM z b0 b1 b2 b3 = 0 := by
  refine fm_err ?_ (rp_no (by omega))
  have e0 : (b0 / 32 == 6) = false := beq_eq_false_iff_ne.2 (by omega)
  have e1 : (b0 / 16 == 14) = false := beq_eq_false_iff_ne.2 (by omega)
  rw [dec1, if_neg (by omega), e0, e1]
  simp only [Bool.false_and, Bool.false_eq_true, if_false]
  split
  · rename_i h3
    simp only [Bool.and_eq_true, beq_iff_eq] at h3
    rw [valid_no (.inr (by omega)), Bool.and_false]
    rfl
  · rfl
/-- Two bytes. -/
theorem fm_2 {z b0 b1 b2 b3 : Nat} (h : 194 ≤ b0) (h2 : b0 < 224) : firM z b0 b1 b2 b3 = if 2 ≤ z ∧ b1 / 64 = 2 then 2 else 0 := by
  have e0 : (b0 / 32 == 6) = true := beq_iff_eq.2 (by omega)
  have e1 : (b0 / 16 == 14) = false := beq_eq_false_iff_ne.2 (by omega)
  have e2 : (b0 / 8 == 30) = false := beq_eq_false_iff_ne.2 (by omega)
  by_cases hz : 2 ≤ z ∧ b1 / 64 = 2
  · rw [if_pos hz]
    refine fm_ok (c := (b0 % 32) * 64 + b1 % 64) ?_ (fun e => by omega)
    rw [dec1, if_neg (by omega), e0, decide_eq_true (show 1 < z by omega), show (b1 / 64 == 2) = true from beq_iff_eq.2 hz.2]
    simp only [Bool.true_and, if_true]
    rw [if_pos (by omega)]
  · rw [if_neg hz]
    refine fm_err ?_ (rp_no (by omega))
    have e3 : (decide (1 < z) && b1 / 64 == 2) = false := by
      rw [Bool.and_eq_false_iff, decide_eq_false_iff_not, beq_eq_false_iff_ne]
      omega
    rw [dec1, if_neg (by omega), e0, e1, e2, e3]
    rfl
def ch3 (b0 b1 b2 : Nat) : Nat := (b0 % 16) * 4096 + (b1 % 64) * 64 + b2 % 64
/-- Three bytes. -/
theorem fm_3 {z b0 b1 b2 b3 : Nat} (h : 224 ≤ b0) (h2 : b0 < 240) : firM z b0 b1 b2 b3 = if (3 ≤ z ∧ b1 / 64 = 2 ∧ b2 / 64 = 2) ∧ 2048 ≤ ch3 b0 b1 b2 ∧ ¬ (55296 ≤ ch3 b0 b1 b2 ∧ ch3 b0 b1 b2 ≤ 57343) then 3 else 0 := by
  have e0 : (b0 / 32 == 6) = false := beq_eq_false_iff_ne.2 (by omega)
  have e1 : (b0 / 16 == 14) = true := beq_iff_eq.2 (by omega)
  have e2 : (b0 / 8 == 30) = false := beq_eq_false_iff_ne.2 (by omega)
  by_cases hz : 3 ≤ z ∧ b1 / 64 = 2 ∧ b2 / 64 = 2
  · have hd : dec1 z b0 b1 b2 b3 = if decide (ch3 b0 b1 b2 ≥ 2048) && Utf8.valid ((ch3 b0 b1 b2 : Nat) : Int) then (ch3 b0 b1 b2, 3) else (65533, 1) := by
      rw [dec1, if_neg (by omega), e0, e1, decide_eq_true (show 1 < z by omega), decide_eq_true (show 2 < z by omega), show (b1 / 64 == 2) = true from beq_iff_eq.2 hz.2.1, show (b2 / 64 == 2) = true from beq_iff_eq.2 hz.2.2]
      simp only [Bool.false_and, Bool.false_eq_true, if_false, Bool.true_and, if_true, ch3]
      rfl
    obtain ⟨c, hc⟩ : ∃ c, c = ch3 b0 b1 b2 := ⟨_, rfl⟩
    have hcl : c ≤ 65535 := by rw [hc, ch3]; omega
    have hrp : c = 65533 → rp z b0 b1 b2 = true := fun e => decide_eq_true ⟨hz.1, by
      rw [hc, ch3] at e
      have := hz.2
      omega⟩
    have hrn : c ≠ 65533 → rp z b0 b1 b2 = false := fun e => decide_eq_false (fun ⟨_, q0, q1, q2⟩ => e (by rw [hc, ch3, q0, q1, q2]))
    rw [← hc] at hd ⊢
    clear hc
    by_cases hv : 2048 ≤ c ∧ ¬ (55296 ≤ c ∧ c ≤ 57343)
    · rw [if_pos ⟨hz, hv⟩]
      rw [decide_eq_true hv.1, valid_yes hv.2 (by omega)] at hd
      exact fm_ok hd hrp
    · rw [if_neg (fun e => hv e.2)]
      refine fm_err ?_ (hrn (by omega))
      rw [hd]
      by_cases h4 : 2048 ≤ c
      · rw [valid_no (.inl (by omega)), Bool.and_false]
        rfl
      · rw [decide_eq_false h4]
        rfl
  · rw [if_neg (fun e => hz e.1)]
    have e3 : ((decide (1 < z) && b1 / 64 == 2) && (decide (2 < z) && b2 / 64 == 2)) = false := by
      simp only [Bool.and_eq_false_iff, decide_eq_false_iff_not, beq_eq_false_iff_ne]
      omega
    refine fm_err ?_ (decide_eq_false (fun ⟨q, _, q1, q2⟩ => hz ⟨q, by omega, by omega⟩))
    rw [dec1, if_neg (by omega), e0, e1, e2]
    simp only [Bool.false_and, Bool.true_and, Bool.false_eq_true, if_false]
    rw [e3]
    rfl
def ch4 (b0 b1 b2 b3 : Nat) : Nat := (b0 % 8) * 262144 + (b1 % 64) * 4096 + (b2 % 64) * 64 + b3 % 64
/-- Four bytes. -/
theorem fm_4 {z b0 b1 b2 b3 : Nat} (h : 240 ≤ b0) (h2 : b0 ≤ 244) : firM z b0 b1 b2 b3 = if (4 ≤ z ∧ b1 / 64 = 2 ∧ b2 / 64 = 2 ∧ b3 / 64 = 2) ∧ 65536 ≤ ch4 b0 b1 b2 b3 ∧ ch4 b0 b1 b2 b3 ≤ 1114111 then 4 else 0 := by
  have e0 : (b0 / 32 == 6) = false := beq_eq_false_iff_ne.2 (by omega)
  have e1 : (b0 / 16 == 14) = false := beq_eq_false_iff_ne.2 (by omega)
  have e2 : (b0 / 8 == 30) = true := beq_iff_eq.2 (by omega)
  by_cases hz : 4 ≤ z ∧ b1 / 64 = 2 ∧ b2 / 64 = 2 ∧ b3 / 64 = 2
  · have hd : dec1 z b0 b1 b2 b3 = if decide (ch4 b0 b1 b2 b3 ≥ 65536) && Utf8.valid ((ch4 b0 b1 b2 b3 : Nat) : Int) then (ch4 b0 b1 b2 b3, 4) else (65533, 1) := by
      rw [dec1, if_neg (by omega), e0, e1, e2, decide_eq_true (show 1 < z by omega), decide_eq_true (show 2 < z by omega), decide_eq_true (show 3 < z by omega), show (b1 / 64 == 2) = true from beq_iff_eq.2 hz.2.1, show (b2 / 64 == 2) = true from beq_iff_eq.2 hz.2.2.1, show (b3 / 64 == 2) = true from beq_iff_eq.2 hz.2.2.2]
      simp only [Bool.false_and, Bool.false_eq_true, if_false, Bool.true_and, if_true, ch4]
      rfl
    obtain ⟨c, hc⟩ : ∃ c, c = ch4 b0 b1 b2 b3 := ⟨_, rfl⟩
    rw [← hc] at hd ⊢
    clear hc
    by_cases hv : 65536 ≤ c ∧ c ≤ 1114111
    · rw [if_pos ⟨hz, hv⟩]
      rw [decide_eq_true hv.1, valid_yes (by omega) hv.2] at hd
      exact fm_ok hd (fun e => by omega)
    · rw [if_neg (fun e => hv e.2)]
      refine fm_err ?_ (rp_no (by omega))
      rw [hd]
      by_cases h4 : 65536 ≤ c
      · rw [valid_no (.inr (by omega)), Bool.and_false]
        rfl
      · rw [decide_eq_false h4]
        rfl
  · rw [if_neg (fun e => hz e.1)]
    have e3 : (((decide (1 < z) && b1 / 64 == 2) && (decide (2 < z) && b2 / 64 == 2)) && (decide (3 < z) && b3 / 64 == 2)) = false := by
      simp only [Bool.and_eq_false_iff, decide_eq_false_iff_not, beq_eq_false_iff_ne]
      omega
    refine fm_err ?_ (rp_no (by omega))
    rw [dec1, if_neg (by omega), e0, e1, e2]
    simp only [Bool.false_and, Bool.true_and, Bool.false_eq_true, if_false]
    rw [e3]
    rfl
end Go.Proofs.YtcofhgdfoamhpaaGreatDoor
