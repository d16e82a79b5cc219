/- The document's own: First and Right of texts, by the characters decoded. -/
import Derived.Test.YtcofhgdfoamhpaaGreatDoorZB
namespace Go.Proofs.YtcofhgdfoamhpaaGreatDoor
open Go.RowKit

theorem get_at (T : ByteArray) (i : Nat) (h : i < T.size) : T.get! i = T[i] := by
  rcases T with ⟨⟨l⟩⟩
  have h' : i < l.length := h
  simp [ByteArray.get!, ByteArray.getElem_eq_getElem_data, h']
theorem rFirst_2 (T : ByteArray) (w : World) (b0 : Nat) (s0 : 0 < T.size) (e0 : T[0].toNat = b0) (h1 : 194 ≤ b0) (h2 : b0 ≤ 223) : Calls Tryz.prog 92 #[.string T] w (FirP ((if 2 ≤ T.size ∧ (T.get! 1).toNat / 64 = 2 then 2 else 0 : Nat) : Int) w) := by
  by_cases hz : 2 ≤ T.size
  · have s1 : 1 < T.size := by omega
    obtain ⟨b1, e1⟩ : ∃ b1, T[1].toNat = b1 := ⟨_, rfl⟩
    have l1 : b1 < 256 := by rw [← e1]; exact UInt8.toNat_lt _
    rw [get_at T 1 s1, e1]
    by_cases k1 : b1 / 64 = 2
    · rw [if_pos ⟨hz, k1⟩]
      exact fir_2_under T w b0 b1 (b0 % 32) (b1 % 64) (64 * (b0 % 32) + b1 % 64) s0 e0 s1 e1 (by omega) (wS (by omega)) (by omega) (by omega) (by omega) (by omega) (by omega) (and31 b0 (by omega)) (by omega) ((and192 b1 l1).trans (by rw [k1]; rfl)) (and63 b1 l1) (wS (by omega)) (by omega) (wM (by omega)) (wS (by omega)) (decide_eq_false (by omega)) (decide_eq_false (by omega)) (decide_eq_false (by omega))
    · rw [if_neg (fun e => k1 e.2)]
      exact fir_2_1 T w b0 b1 (b0 % 32) (b1 / 64 * 64) s0 e0 s1 e1 (by omega) (wS (by omega)) (by omega) (by omega) (by omega) (by omega) (by omega) (and31 b0 (by omega)) (by omega) (and192 b1 l1) (by omega)
  · rw [if_neg (fun e => hz e.1)]
    exact fir_2_size T w b0 (b0 % 32) s0 e0 (wS (by omega)) (by omega) (by omega) (by omega) (by omega) (by omega) (and31 b0 (by omega)) (by omega)
theorem rFirst_3 (T : ByteArray) (w : World) (b0 : Nat) (s0 : 0 < T.size) (e0 : T[0].toNat = b0) (h1 : 224 ≤ b0) (h2 : b0 ≤ 239) : Calls Tryz.prog 92 #[.string T] w (FirP ((if (3 ≤ T.size ∧ (T.get! 1).toNat / 64 = 2 ∧ (T.get! 2).toNat / 64 = 2) ∧ 2048 ≤ ch3 b0 (T.get! 1).toNat (T.get! 2).toNat ∧ ¬ (55296 ≤ ch3 b0 (T.get! 1).toNat (T.get! 2).toNat ∧ ch3 b0 (T.get! 1).toNat (T.get! 2).toNat ≤ 57343) then 3 else 0 : Nat) : Int) w) := by
  by_cases hz : 3 ≤ T.size
  · have s1 : 1 < T.size := by omega
    obtain ⟨b1, e1⟩ : ∃ b1, T[1].toNat = b1 := ⟨_, rfl⟩
    have l1 : b1 < 256 := by rw [← e1]; exact UInt8.toNat_lt _
    have s2 : 2 < T.size := by omega
    obtain ⟨b2, e2⟩ : ∃ b2, T[2].toNat = b2 := ⟨_, rfl⟩
    have l2 : b2 < 256 := by rw [← e2]; exact UInt8.toNat_lt _
    rw [get_at T 1 s1, e1, get_at T 2 s2, e2]
    by_cases k1 : b1 / 64 = 2
    · by_cases k2 : b2 / 64 = 2
      · have hch : 64 * (64 * (b0 % 32 % 16) + b1 % 64) + b2 % 64 = ch3 b0 b1 b2 := by unfold ch3; omega
        have hcl : ch3 b0 b1 b2 < 65536 := by rw [← hch]; omega
        by_cases x : 2048 ≤ ch3 b0 b1 b2
        · by_cases y : 55296 ≤ ch3 b0 b1 b2
          · by_cases y2 : ch3 b0 b1 b2 ≤ 57343
            · rw [if_neg (fun e => e.2.2 ⟨y, y2⟩)]
              exact fir_3_half T w b0 b1 b2 (b0 % 32) (b0 % 32 % 16) (b1 % 64) (64 * (b0 % 32 % 16) + b1 % 64) (b2 % 64) (ch3 b0 b1 b2) s0 e0 s1 e1 (by omega) s2 e2 (by omega) (wS (by omega)) (by omega) (by omega) (by omega) (by omega) (by omega) (and31 b0 (by omega)) (and15 _ (by omega)) (by omega) ((and192 b1 l1).trans (by rw [k1]; rfl)) (and63 b1 l1) (wS (by omega)) (by omega) (wM (by omega)) (wS (by omega)) ((and192 b2 l2).trans (by rw [k2]; rfl)) (and63 b2 l2) (wS (by omega)) (by have := hch; omega) (wM (by omega)) (wS (by omega)) (decide_eq_false (by omega)) (decide_eq_false (by omega)) (decide_eq_true (by omega)) (decide_eq_true (by omega))
            · rw [if_pos ⟨⟨hz, k1, k2⟩, x, fun e => y2 e.2⟩]
              exact fir_3_over T w b0 b1 b2 (b0 % 32) (b0 % 32 % 16) (b1 % 64) (64 * (b0 % 32 % 16) + b1 % 64) (b2 % 64) (ch3 b0 b1 b2) s0 e0 s1 e1 (by omega) s2 e2 (by omega) (wS (by omega)) (by omega) (by omega) (by omega) (by omega) (by omega) (and31 b0 (by omega)) (and15 _ (by omega)) (by omega) ((and192 b1 l1).trans (by rw [k1]; rfl)) (and63 b1 l1) (wS (by omega)) (by omega) (wM (by omega)) (wS (by omega)) ((and192 b2 l2).trans (by rw [k2]; rfl)) (and63 b2 l2) (wS (by omega)) (by have := hch; omega) (wM (by omega)) (wS (by omega)) (decide_eq_false (by omega)) (decide_eq_false (by omega)) (decide_eq_true (by omega)) (decide_eq_false (by omega))
          · rw [if_pos ⟨⟨hz, k1, k2⟩, x, fun e => y e.1⟩]
            exact fir_3_under T w b0 b1 b2 (b0 % 32) (b0 % 32 % 16) (b1 % 64) (64 * (b0 % 32 % 16) + b1 % 64) (b2 % 64) (ch3 b0 b1 b2) s0 e0 s1 e1 (by omega) s2 e2 (by omega) (wS (by omega)) (by omega) (by omega) (by omega) (by omega) (by omega) (and31 b0 (by omega)) (and15 _ (by omega)) (by omega) ((and192 b1 l1).trans (by rw [k1]; rfl)) (and63 b1 l1) (wS (by omega)) (by omega) (wM (by omega)) (wS (by omega)) ((and192 b2 l2).trans (by rw [k2]; rfl)) (and63 b2 l2) (wS (by omega)) (by have := hch; omega) (wM (by omega)) (wS (by omega)) (decide_eq_false (by omega)) (decide_eq_false (by omega)) (decide_eq_false (by omega))
        · rw [if_neg (fun e => x e.2.1)]
          exact fir_3_least T w b0 b1 b2 (b0 % 32) (b0 % 32 % 16) (b1 % 64) (64 * (b0 % 32 % 16) + b1 % 64) (b2 % 64) (ch3 b0 b1 b2) s0 e0 s1 e1 (by omega) s2 e2 (by omega) (wS (by omega)) (by omega) (by omega) (by omega) (by omega) (by omega) (and31 b0 (by omega)) (and15 _ (by omega)) (by omega) ((and192 b1 l1).trans (by rw [k1]; rfl)) (and63 b1 l1) (wS (by omega)) (by omega) (wM (by omega)) (wS (by omega)) ((and192 b2 l2).trans (by rw [k2]; rfl)) (and63 b2 l2) (wS (by omega)) (by have := hch; omega) (wM (by omega)) (wS (by omega)) (decide_eq_true (by omega))
      · rw [if_neg (fun e => k2 e.1.2.2)]
        exact fir_3_2 T w b0 b1 b2 (b0 % 32) (b0 % 32 % 16) (b1 % 64) (64 * (b0 % 32 % 16) + b1 % 64) (b2 / 64 * 64) s0 e0 s1 e1 (by omega) s2 e2 (by omega) (wS (by omega)) (by omega) (by omega) (by omega) (by omega) (by omega) (and31 b0 (by omega)) (and15 _ (by omega)) (by omega) ((and192 b1 l1).trans (by rw [k1]; rfl)) (and63 b1 l1) (wS (by omega)) (by omega) (wM (by omega)) (wS (by omega)) (and192 b2 l2) (by omega)
    · rw [if_neg (fun e => k1 e.1.2.1)]
      exact fir_3_1 T w b0 b1 (b0 % 32) (b0 % 32 % 16) (b1 / 64 * 64) s0 e0 s1 e1 (by omega) (wS (by omega)) (by omega) (by omega) (by omega) (by omega) (by omega) (and31 b0 (by omega)) (and15 _ (by omega)) (by omega) (and192 b1 l1) (by omega)
  · rw [if_neg (fun e => hz e.1.1)]
    exact fir_3_size T w b0 (b0 % 32) (b0 % 32 % 16) s0 e0 (wS (by omega)) (by omega) (by omega) (by omega) (by omega) (by omega) (and31 b0 (by omega)) (and15 _ (by omega)) (by omega)
theorem rFirst_4 (T : ByteArray) (w : World) (b0 : Nat) (s0 : 0 < T.size) (e0 : T[0].toNat = b0) (h1 : 240 ≤ b0) (h2 : b0 ≤ 244) : Calls Tryz.prog 92 #[.string T] w (FirP ((if (4 ≤ T.size ∧ (T.get! 1).toNat / 64 = 2 ∧ (T.get! 2).toNat / 64 = 2 ∧ (T.get! 3).toNat / 64 = 2) ∧ 65536 ≤ ch4 b0 (T.get! 1).toNat (T.get! 2).toNat (T.get! 3).toNat ∧ ch4 b0 (T.get! 1).toNat (T.get! 2).toNat (T.get! 3).toNat ≤ 1114111 then 4 else 0 : Nat) : Int) w) := by
  by_cases hz : 4 ≤ T.size
  · have s1 : 1 < T.size := by omega
    obtain ⟨b1, e1⟩ : ∃ b1, T[1].toNat = b1 := ⟨_, rfl⟩
    have l1 : b1 < 256 := by rw [← e1]; exact UInt8.toNat_lt _
    have s2 : 2 < T.size := by omega
    obtain ⟨b2, e2⟩ : ∃ b2, T[2].toNat = b2 := ⟨_, rfl⟩
    have l2 : b2 < 256 := by rw [← e2]; exact UInt8.toNat_lt _
    have s3 : 3 < T.size := by omega
    obtain ⟨b3, e3⟩ : ∃ b3, T[3].toNat = b3 := ⟨_, rfl⟩
    have l3 : b3 < 256 := by rw [← e3]; exact UInt8.toNat_lt _
    rw [get_at T 1 s1, e1, get_at T 2 s2, e2, get_at T 3 s3, e3]
    by_cases k1 : b1 / 64 = 2
    · by_cases k2 : b2 / 64 = 2
      · by_cases k3 : b3 / 64 = 2
        · have hch : 64 * (64 * (64 * (b0 % 32 % 16 % 8) + b1 % 64) + b2 % 64) + b3 % 64 = ch4 b0 b1 b2 b3 := by unfold ch4; omega
          have hcl : ch4 b0 b1 b2 b3 < 2097152 := by rw [← hch]; omega
          by_cases x : 65536 ≤ ch4 b0 b1 b2 b3
          · by_cases y : ch4 b0 b1 b2 b3 ≤ 1114111
            · rw [if_pos ⟨⟨hz, k1, k2, k3⟩, x, y⟩]
              exact fir_4_over T w b0 b1 b2 b3 (b0 % 32) (b0 % 32 % 16) (b0 % 32 % 16 % 8) (b1 % 64) (64 * (b0 % 32 % 16 % 8) + b1 % 64) (b2 % 64) (64 * (64 * (b0 % 32 % 16 % 8) + b1 % 64) + b2 % 64) (b3 % 64) (ch4 b0 b1 b2 b3) s0 e0 s1 e1 (by omega) s2 e2 (by omega) s3 e3 (by omega) (wS (by omega)) (by omega) (by omega) (by omega) (by omega) (by omega) (and31 b0 (by omega)) (and15 _ (by omega)) (and7 _ (by omega)) (by omega) ((and192 b1 l1).trans (by rw [k1]; rfl)) (and63 b1 l1) (wS (by omega)) (by omega) (wM (by omega)) (wS (by omega)) ((and192 b2 l2).trans (by rw [k2]; rfl)) (and63 b2 l2) (wS (by omega)) (by omega) (wM (by omega)) (wS (by omega)) ((and192 b3 l3).trans (by rw [k3]; rfl)) (and63 b3 l3) (wS (by omega)) (by have := hch; omega) (wM (by omega)) (wS (by omega)) (decide_eq_false (by omega)) (decide_eq_false (by omega)) (decide_eq_true (by omega)) (decide_eq_false (by omega))
            · rw [if_neg (fun e => y e.2.2)]
              exact fir_4_most T w b0 b1 b2 b3 (b0 % 32) (b0 % 32 % 16) (b0 % 32 % 16 % 8) (b1 % 64) (64 * (b0 % 32 % 16 % 8) + b1 % 64) (b2 % 64) (64 * (64 * (b0 % 32 % 16 % 8) + b1 % 64) + b2 % 64) (b3 % 64) (ch4 b0 b1 b2 b3) s0 e0 s1 e1 (by omega) s2 e2 (by omega) s3 e3 (by omega) (wS (by omega)) (by omega) (by omega) (by omega) (by omega) (by omega) (and31 b0 (by omega)) (and15 _ (by omega)) (and7 _ (by omega)) (by omega) ((and192 b1 l1).trans (by rw [k1]; rfl)) (and63 b1 l1) (wS (by omega)) (by omega) (wM (by omega)) (wS (by omega)) ((and192 b2 l2).trans (by rw [k2]; rfl)) (and63 b2 l2) (wS (by omega)) (by omega) (wM (by omega)) (wS (by omega)) ((and192 b3 l3).trans (by rw [k3]; rfl)) (and63 b3 l3) (wS (by omega)) (by have := hch; omega) (wM (by omega)) (wS (by omega)) (decide_eq_false (by omega)) (decide_eq_true (by omega))
          · rw [if_neg (fun e => x e.2.1)]
            exact fir_4_least T w b0 b1 b2 b3 (b0 % 32) (b0 % 32 % 16) (b0 % 32 % 16 % 8) (b1 % 64) (64 * (b0 % 32 % 16 % 8) + b1 % 64) (b2 % 64) (64 * (64 * (b0 % 32 % 16 % 8) + b1 % 64) + b2 % 64) (b3 % 64) (ch4 b0 b1 b2 b3) s0 e0 s1 e1 (by omega) s2 e2 (by omega) s3 e3 (by omega) (wS (by omega)) (by omega) (by omega) (by omega) (by omega) (by omega) (and31 b0 (by omega)) (and15 _ (by omega)) (and7 _ (by omega)) (by omega) ((and192 b1 l1).trans (by rw [k1]; rfl)) (and63 b1 l1) (wS (by omega)) (by omega) (wM (by omega)) (wS (by omega)) ((and192 b2 l2).trans (by rw [k2]; rfl)) (and63 b2 l2) (wS (by omega)) (by omega) (wM (by omega)) (wS (by omega)) ((and192 b3 l3).trans (by rw [k3]; rfl)) (and63 b3 l3) (wS (by omega)) (by have := hch; omega) (wM (by omega)) (wS (by omega)) (decide_eq_true (by omega))
        · rw [if_neg (fun e => k3 e.1.2.2.2)]
          exact fir_4_3 T w b0 b1 b2 b3 (b0 % 32) (b0 % 32 % 16) (b0 % 32 % 16 % 8) (b1 % 64) (64 * (b0 % 32 % 16 % 8) + b1 % 64) (b2 % 64) (64 * (64 * (b0 % 32 % 16 % 8) + b1 % 64) + b2 % 64) (b3 / 64 * 64) s0 e0 s1 e1 (by omega) s2 e2 (by omega) s3 e3 (by omega) (wS (by omega)) (by omega) (by omega) (by omega) (by omega) (by omega) (and31 b0 (by omega)) (and15 _ (by omega)) (and7 _ (by omega)) (by omega) ((and192 b1 l1).trans (by rw [k1]; rfl)) (and63 b1 l1) (wS (by omega)) (by omega) (wM (by omega)) (wS (by omega)) ((and192 b2 l2).trans (by rw [k2]; rfl)) (and63 b2 l2) (wS (by omega)) (by omega) (wM (by omega)) (wS (by omega)) (and192 b3 l3) (by omega)
      · rw [if_neg (fun e => k2 e.1.2.2.1)]
        exact fir_4_2 T w b0 b1 b2 (b0 % 32) (b0 % 32 % 16) (b0 % 32 % 16 % 8) (b1 % 64) (64 * (b0 % 32 % 16 % 8) + b1 % 64) (b2 / 64 * 64) s0 e0 s1 e1 (by omega) s2 e2 (by omega) (wS (by omega)) (by omega) (by omega) (by omega) (by omega) (by omega) (and31 b0 (by omega)) (and15 _ (by omega)) (and7 _ (by omega)) (by omega) ((and192 b1 l1).trans (by rw [k1]; rfl)) (and63 b1 l1) (wS (by omega)) (by omega) (wM (by omega)) (wS (by omega)) (and192 b2 l2) (by omega)
    · rw [if_neg (fun e => k1 e.1.2.1)]
      exact fir_4_1 T w b0 b1 (b0 % 32) (b0 % 32 % 16) (b0 % 32 % 16 % 8) (b1 / 64 * 64) s0 e0 s1 e1 (by omega) (wS (by omega)) (by omega) (by omega) (by omega) (by omega) (by omega) (and31 b0 (by omega)) (and15 _ (by omega)) (and7 _ (by omega)) (by omega) (and192 b1 l1) (by omega)
  · rw [if_neg (fun e => hz e.1.1)]
    exact fir_4_size T w b0 (b0 % 32) (b0 % 32 % 16) (b0 % 32 % 16 % 8) s0 e0 (wS (by omega)) (by omega) (by omega) (by omega) (by omega) (by omega) (and31 b0 (by omega)) (and15 _ (by omega)) (and7 _ (by omega)) (by omega)
def firN (T : ByteArray) : Nat := firM T.size (T.get! 0).toNat (T.get! 1).toNat (T.get! 2).toNat (T.get! 3).toNat
theorem rFirst_calls (T : ByteArray) (w : World) (s0 : 0 < T.size) : Calls Tryz.prog 92 #[.string T] w (FirP (firN T : Int) w) := by
  obtain ⟨b0, e0⟩ : ∃ b0, T[0].toNat = b0 := ⟨_, rfl⟩
  have l0 : b0 < 256 := by rw [← e0]; exact UInt8.toNat_lt _
  rw [firN, get_at T 0 s0, e0]
  by_cases h1 : b0 < 128
  · rw [fm_ascii h1]
    exact fir_ascii T w b0 s0 e0 (wS (by omega)) (by omega) (by omega) (decide_eq_false (by omega)) (decide_eq_false (by omega)) (decide_eq_false (by omega))
  · by_cases h2 : b0 < 194
    · rw [fm_low (by omega) h2]
      exact fir_low T w b0 s0 e0 (wS (by omega)) (by omega) (by omega)
    · by_cases h3 : b0 < 224
      · rw [fm_2 (by omega) h3]
        exact rFirst_2 T w b0 s0 e0 (by omega) (by omega)
      · by_cases h4 : b0 < 240
        · rw [fm_3 (by omega) h4]
          exact rFirst_3 T w b0 s0 e0 (by omega) (by omega)
        · by_cases h5 : b0 ≤ 244
          · rw [fm_4 (by omega) h5]
            exact rFirst_4 T w b0 s0 e0 (by omega) (by omega)
          · rw [fm_high (by omega)]
            exact fir_high T w b0 s0 e0 (wS (by omega)) (by omega) (by omega) (by omega)
end Go.Proofs.YtcofhgdfoamhpaaGreatDoor
