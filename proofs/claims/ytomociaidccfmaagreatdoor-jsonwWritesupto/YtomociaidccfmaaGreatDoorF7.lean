/- Plain mathematics: the opposite sign, narrowed and widened. -/
import Derived.Test.YtomociaidccfmaaGreatDoorMf
namespace Go.Proofs.YtomociaidccfmaaGreatDoor

/-- The opposite sign. -/
def flipN (a : Nat) : Nat := if a < 9223372036854775808 then a + 9223372036854775808 else a - 9223372036854775808
theorem nar_flip16 {a : Nat} (ha : a < 9223372036854775808) : nar16 (a + 9223372036854775808) = nar16 a + 32768 ∧ nar16 a < 32768 := by
  have e1 : (a + 9223372036854775808) / 4503599627370496 % 2048 = a / 4503599627370496 % 2048 := by omega
  have e2 : (a + 9223372036854775808) % 4503599627370496 = a % 4503599627370496 := by omega
  have e3 : (a + 9223372036854775808) / 9223372036854775808 = 1 := by omega
  have e4 : a / 9223372036854775808 = 0 := by omega
  rw [nar16, nar16, e1, e2, e3, e4]
  split
  · constructor <;> omega
  · split
    · constructor <;> omega
    · split
      · rename_i h1 h2 h3
        obtain ⟨t, ht⟩ : ∃ t, t = 1051 - a / 4503599627370496 % 2048 := ⟨_, rfl⟩
        have h6 : 2 ^ 43 ≤ 2 ^ t := Nat.pow_le_pow_right (by decide) (by omega)
        have h7 : (4503599627370496 + a % 4503599627370496) / 2 ^ t ≤ (4503599627370496 + a % 4503599627370496) / 2 ^ 43 := Nat.div_le_div_left h6 (by decide)
        have h8 : (4503599627370496 + a % 4503599627370496) / 2 ^ 43 < 1024 := by
          rw [show (2 : Nat) ^ 43 = 8796093022208 from by decide]
          omega
        rw [← ht]
        constructor <;> omega
      · exact ⟨by simp, by simp⟩
set_option maxRecDepth 100000 in
theorem wid_flip16 {b : Nat} (hb : b < 32768) : wid16 (b + 32768) = wid16 b + 9223372036854775808 := by
  have e1 : (b + 32768) / 1024 % 32 = b / 1024 % 32 := by omega
  have e2 : (b + 32768) % 1024 = b % 1024 := by omega
  have e3 : (b + 32768) / 32768 = 1 := by omega
  have e4 : b / 32768 = 0 := by omega
  unfold wid16
  rw [e1, e2, e3, e4]
  split
  · omega
  · split
    · split <;> omega
    · omega
theorem fits_flip16 {a : Nat} (ha : a < 18446744073709551616) : wid16 (nar16 (flipN a)) = flipN a ↔ wid16 (nar16 a) = a := by
  rw [flipN]
  split
  · rename_i h
    obtain ⟨h1, h2⟩ := nar_flip16 h
    rw [h1, wid_flip16 h2]
    omega
  · rename_i h
    obtain ⟨h1, h2⟩ := nar_flip16 (a := a - 9223372036854775808) (by omega)
    rw [show a - 9223372036854775808 + 9223372036854775808 = a from by omega] at h1
    rw [h1, wid_flip16 h2]
    omega

theorem nar_flip32 {a : Nat} (ha : a < 9223372036854775808) : nar32 (a + 9223372036854775808) = nar32 a + 2147483648 ∧ nar32 a < 2147483648 := by
  have e1 : (a + 9223372036854775808) / 4503599627370496 % 2048 = a / 4503599627370496 % 2048 := by omega
  have e2 : (a + 9223372036854775808) % 4503599627370496 = a % 4503599627370496 := by omega
  have e3 : (a + 9223372036854775808) / 9223372036854775808 = 1 := by omega
  have e4 : a / 9223372036854775808 = 0 := by omega
  rw [nar32, nar32, e1, e2, e3, e4]
  split
  · constructor <;> omega
  · split
    · constructor <;> omega
    · split
      · rename_i h1 h2 h3
        obtain ⟨t, ht⟩ : ∃ t, t = 926 - a / 4503599627370496 % 2048 := ⟨_, rfl⟩
        have h6 : 2 ^ 30 ≤ 2 ^ t := Nat.pow_le_pow_right (by decide) (by omega)
        have h7 : (4503599627370496 + a % 4503599627370496) / 2 ^ t ≤ (4503599627370496 + a % 4503599627370496) / 2 ^ 30 := Nat.div_le_div_left h6 (by decide)
        have h8 : (4503599627370496 + a % 4503599627370496) / 2 ^ 30 < 8388608 := by
          rw [show (2 : Nat) ^ 30 = 1073741824 from by decide]
          omega
        rw [← ht]
        constructor <;> omega
      · exact ⟨by simp, by simp⟩
set_option maxRecDepth 100000 in
theorem wid_flip32 {b : Nat} (hb : b < 2147483648) : wid32 (b + 2147483648) = wid32 b + 9223372036854775808 := by
  have e1 : (b + 2147483648) / 8388608 % 256 = b / 8388608 % 256 := by omega
  have e2 : (b + 2147483648) % 8388608 = b % 8388608 := by omega
  have e3 : (b + 2147483648) / 2147483648 = 1 := by omega
  have e4 : b / 2147483648 = 0 := by omega
  unfold wid32
  rw [e1, e2, e3, e4]
  split
  · omega
  · split
    · split <;> omega
    · omega
theorem fits_flip32 {a : Nat} (ha : a < 18446744073709551616) : wid32 (nar32 (flipN a)) = flipN a ↔ wid32 (nar32 a) = a := by
  rw [flipN]
  split
  · rename_i h
    obtain ⟨h1, h2⟩ := nar_flip32 h
    rw [h1, wid_flip32 h2]
    omega
  · rename_i h
    obtain ⟨h1, h2⟩ := nar_flip32 (a := a - 9223372036854775808) (by omega)
    rw [show a - 9223372036854775808 + 9223372036854775808 = a from by omega] at h1
    rw [h1, wid_flip32 h2]
    omega

theorem least_flip {a : Nat} (ha : a < 18446744073709551616) : leastW (flipN a) = leastW a := by
  rw [leastW, leastW]
  by_cases h1 : wid16 (nar16 a) = a
  · rw [if_pos h1, if_pos ((fits_flip16 ha).2 h1)]
  · rw [if_neg h1, if_neg (fun e => h1 ((fits_flip16 ha).1 e))]
    by_cases h2 : wid32 (nar32 a) = a
    · rw [if_pos h2, if_pos ((fits_flip32 ha).2 h2)]
    · rw [if_neg h2, if_neg (fun e => h2 ((fits_flip32 ha).1 e))]
end Go.Proofs.YtomociaidccfmaaGreatDoor
