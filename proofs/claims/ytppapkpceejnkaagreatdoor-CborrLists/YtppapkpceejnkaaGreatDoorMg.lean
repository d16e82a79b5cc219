/- The walks of the document's own IsWidth, sizes, IsFinite, Widen. The program's own: ones, full, leastPower, widest. The program's own: TrailingZeros64, reduced. The program's own: split, value. The program's own: value. -/
import Derived.Test.YtppapkpceejnkaaGreatDoorMf
import Derived.Deep.QuietTactic
import Derived.BigQuiet
import Derived.Lib.Hide
import Derived.Laws.Bits64b
import Derived.Test.YtppapkpceejnkaaGreatDoorMd
import Derived.Lib.LaidTab
import Derived.Shelf.Spec.TrailingZeros
import Derived.Deep.RegionHeld3

namespace Go.Proofs.YtppapkpceejnkaaGreatDoor
open Go.RowKit

set_option maxRecDepth 100000 in
theorem rIsWidth_calls (x : Int) (w : World) : Calls Tryz.prog 157 #[.int .i64 x] w fun o w' => o = .returned (.bool (isW x)) ∧ w = w' := by
  by_cases h1 : x = 16
  · subst h1
    go_enter Tryz.func157, Tryz.ntmps157
    go_wp2
    go_ret
    exact ⟨rfl, rfl⟩
  · have e1 : (x == 16) = false := by simpa using h1
    by_cases h2 : x = 32
    · subst h2
      go_enter Tryz.func157, Tryz.ntmps157
      go_wp2
      go_ret
      exact ⟨rfl, rfl⟩
    · have e2 : (x == 32) = false := by simpa using h2
      go_enter Tryz.func157, Tryz.ntmps157
      go_wp2
      go_ret
      exact ⟨by rw [isW, e1, e2]; rfl, rfl⟩

/-- Binary digits cut off, joined. -/
theorem and_64 (a k m : Nat) (hm : m = 2 ^ k - 1) (hk : k ≤ 63) (ha : a < 18446744073709551616) (x y : Int) (hx : x = (a : Int)) (hy : y = (m : Int)) : bits .and .u64 x y = ((a % 2 ^ k : Nat) : Int) := by
  subst hx hy hm
  have h1 : 2 ^ k ≤ 2 ^ 63 := Nat.pow_le_pow_right (by decide) hk
  have h2 : (2 : Nat) ^ 63 = 9223372036854775808 := by decide
  rw [bits_and_u64_nat a (2 ^ k - 1) ha (by omega), Nat.and_two_pow_sub_one_eq_mod]
theorem or_64 (h l k : Nat) (hl : l < 2 ^ k) (hh : h % 2 ^ k = 0) (h1 : h + l < 18446744073709551616) (x y : Int) (hx : x = (h : Int)) (hy : y = (l : Int)) : bits .or .u64 x y = ((h + l : Nat) : Int) := by
  subst hx hy
  rw [bits_or_u64_nat h l (by omega) (by omega)]
  obtain ⟨q, rfl⟩ : ∃ q, h = 2 ^ k * q := ⟨h / 2 ^ k, by rw [Nat.mul_div_cancel' (Nat.dvd_of_mod_eq_zero hh)]⟩
  rw [Nat.two_pow_add_eq_or_of_lt hl]

set_option maxRecDepth 100000 in
theorem rsizes_calls (x : Int) (p k : Nat) (w : World) (h : (x = 16 ∧ p = 10 ∧ k = 5) ∨ (x = 32 ∧ p = 23 ∧ k = 8)) : Calls Tryz.prog 158 #[.int .i64 x] w fun o w' => o = .returned (.tuple #[.int .i64 (p : Int), .int .i64 (k : Int)]) ∧ w = w' := by
  rcases h with ⟨rfl, rfl, rfl⟩ | ⟨rfl, rfl, rfl⟩
  all_goals
    go_enter Tryz.func158, Tryz.ntmps158
    go_wp2
    go_ret2
    exact ⟨rfl, rfl⟩

set_option maxRecDepth 100000 in
set_option maxHeartbeats 1000000 in
theorem rWiden16 (b : Nat) (w : World) (hb : b < 65536) : Calls Tryz.prog 119 #[.int .u64 (b : Int), .int .i64 16] w fun o w' => o = .returned (.tuple #[.int .u64 (wid16 b : Nat), .int .i64 0]) ∧ Below w.heap.size w w' := by
  have hz : ((b : Int) / 65536 != 0) = false := by rw [show (b : Int) / 65536 = 0 from by omega]; rfl
  have a1 : bits .and .u64 ((b : Int) / 1024) 31 = ((b / 1024 % 32 : Nat) : Int) := and_64 (b / 1024) 5 31 (by decide) (by decide) (by omega) _ _ (by omega) rfl
  have a2 : bits .and .u64 (b : Int) 1023 = ((b % 1024 : Nat) : Int) := and_64 b 10 1023 (by decide) (by decide) (by omega) _ _ rfl rfl
  obtain ⟨e, he⟩ : ∃ e, e = b / 1024 % 32 := ⟨_, rfl⟩
  obtain ⟨f, hf⟩ : ∃ f, f = b % 1024 := ⟨_, rfl⟩
  obtain ⟨s, hs⟩ : ∃ s, s = b / 32768 := ⟨_, rfl⟩
  have hsi : (b : Int) / 32768 = (s : Int) := by omega
  rw [← he] at a1
  rw [← hf] at a2
  have he32 : e < 32 := by omega
  have hf10 : f < 1024 := by omega
  have hs2 : s < 2 := by omega
  by_cases h31 : e = 31
  · have HW : Hid (wid16 b = s * 9223372036854775808 + 9218868437227405312 + f * 4398046511104) := Lib.hid (by rw [wid16, if_pos (by omega)]; omega)
    obtain ⟨r1, hr1⟩ : ∃ r1, r1 = s * 9223372036854775808 + 9218868437227405312 := ⟨_, rfl⟩
    obtain ⟨r2, hr2⟩ : ∃ r2, r2 = r1 + f * 4398046511104 := ⟨_, rfl⟩
    have o1 : bits .or .u64 ((s : Int) * 9223372036854775808) 9218868437227405312 = (r1 : Int) := by
      rw [hr1]; exact or_64 (s * 9223372036854775808) 9218868437227405312 63 (by decide) (by omega) (by omega) _ _ (by omega) rfl
    have o2 : bits .or .u64 (r1 : Int) ((f : Int) * 4398046511104) = (r2 : Int) := by
      rw [hr2]; exact or_64 r1 (f * 4398046511104) 52 (by omega) (by omega) (by omega) _ _ rfl (by omega)
    rw [HW.out, ← hr1, ← hr2]
    clear hr1 hr2 HW he hf hs
    subst h31
    go_enter Tryz.func119, Tryz.ntmps119
    go_wp2_with (first | (go_at_call 157; refine (rIsWidth_calls _ _).mono ?_; rintro o w1 ⟨rfl, rfl⟩) | (go_at_call 158; refine (rsizes_calls _ 10 5 _ (.inl ⟨rfl, rfl, rfl⟩)).mono ?_; rintro o w1 ⟨rfl, rfl⟩))
    go_quiet (fail)
    go_wp2
    go_ret2
    exact ⟨rfl, below_drewN (Below.refl _ _) _⟩
  · have hE1 : ((e : Int) == 31) = false := by simp; omega
    by_cases h0 : e = 0
    · subst h0
      by_cases hf0 : f = 0
      · have HW : Hid (wid16 b = s * 9223372036854775808) := Lib.hid (by rw [wid16, if_neg (by omega), if_pos (by omega), if_pos (by omega)]; omega)
        obtain ⟨r1, hr1⟩ : ∃ r1, r1 = s * 9223372036854775808 := ⟨_, rfl⟩
        have hr1i : (s : Int) * 9223372036854775808 = (r1 : Int) := by omega
        rw [HW.out, ← hr1]
        clear hr1 HW he hf hs
        subst hf0
        go_enter Tryz.func119, Tryz.ntmps119
        go_wp2_with (first | (go_at_call 157; refine (rIsWidth_calls _ _).mono ?_; rintro o w1 ⟨rfl, rfl⟩) | (go_at_call 158; refine (rsizes_calls _ 10 5 _ (.inl ⟨rfl, rfl, rfl⟩)).mono ?_; rintro o w1 ⟨rfl, rfl⟩))
        go_quiet (fail)
        go_wp2
        go_ret2
        exact ⟨rfl, below_drewN (Below.refl _ _) _⟩
      · obtain ⟨j, hj, hj1, hj2, hj3⟩ := log_cases16 hf0 hf10
        have hpow : 2 ^ (10 - j) * 2 ^ j = 1024 := by rw [← Nat.pow_add, show 10 - j + j = 10 from by omega]
        have hpow2 : 2 ^ (52 - j) = 2 ^ (10 - j) * 4398046511104 := by rw [show 52 - j = (10 - j) + 42 from by omega, Nat.pow_add]
        obtain ⟨M, hM⟩ : ∃ M, M = 10 - j := ⟨_, rfl⟩
        obtain ⟨G, hG⟩ : ∃ G, G = f * 2 ^ M := ⟨_, rfl⟩
        have hG1 : 1024 ≤ G := by rw [hG, ← hpow, ← hM, Nat.mul_comm]; exact Nat.mul_le_mul_right _ hj2
        have hG2 : G < 2048 := by
          have h5 := Nat.mul_lt_mul_of_pos_right hj3 (show 0 < 2 ^ M from Nat.pow_pos (by decide))
          rw [Nat.pow_succ, Nat.mul_comm (2 ^ j) 2, Nat.mul_assoc, Nat.mul_comm (2 ^ j), hM, hpow, ← hM, ← hG] at h5
          omega
        obtain ⟨E, hE⟩ : ∃ E, E = 999 + j := ⟨_, rfl⟩
        have HW : Hid (wid16 b = s * 9223372036854775808 + E * 4503599627370496 + (G - 1024) * 4398046511104) := Lib.hid (by
          have h6 : f * 2 ^ (52 - j) = G * 4398046511104 := by rw [hpow2, ← hM, ← Nat.mul_assoc, ← hG]
          rw [wid16, if_neg (by omega), if_pos (by omega), if_neg (by omega), ← hf, hj, h6, ← hs, ← hE]
          omega)
        have HG : Hid (f * 2 ^ M = G) := Lib.hid hG.symm
        obtain ⟨H, hH⟩ : ∃ H, H = G - 1024 := ⟨_, rfl⟩
        have hHi : (G : Int) - 1024 = (H : Int) := by omega
        have hEi : 1 - (M : Int) - 15 + 1023 = (E : Int) := by omega
        obtain ⟨r1, hr1⟩ : ∃ r1, r1 = s * 9223372036854775808 + E * 4503599627370496 := ⟨_, rfl⟩
        obtain ⟨r2, hr2⟩ : ∃ r2, r2 = r1 + H * 4398046511104 := ⟨_, rfl⟩
        have o1 : bits .or .u64 ((s : Int) * 9223372036854775808) ((E : Int) * 4503599627370496) = (r1 : Int) := by
          rw [hr1]; exact or_64 (s * 9223372036854775808) (E * 4503599627370496) 63 (by omega) (by omega) (by omega) _ _ (by omega) (by omega)
        have o2 : bits .or .u64 (r1 : Int) ((H : Int) * 4398046511104) = (r2 : Int) := by
          rw [hr2]; exact or_64 r1 (H * 4398046511104) 52 (by omega) (by omega) (by omega) _ _ rfl (by omega)
        have hE3 : E < 2048 := by omega
        have hM1 : M ≤ 10 := by omega
        have hH3 : H < 1024 := by omega
        have hf0i : ((f : Int) == 0) = false := by simpa using hf0
        have HO1 := Lib.hid o1
        have HO2 := Lib.hid o2
        have HHi := Lib.hid hHi
        have HEi := Lib.hid hEi
        rw [HW.out, ← hH, ← hr1, ← hr2]
        clear hr1 hr2 HW he hf hs hE hH hM hG hpow hpow2 hj hj1 hj2 hj3 o1 o2 hHi hEi hf0
        go_enter Tryz.func119, Tryz.ntmps119
        go_wp2_with (first | (go_at_call 157; refine (rIsWidth_calls _ _).mono ?_; rintro o w1 ⟨rfl, rfl⟩) | (go_at_call 158; refine (rsizes_calls _ 10 5 _ (.inl ⟨rfl, rfl, rfl⟩)).mono ?_; rintro o w1 ⟨rfl, rfl⟩))
        go_quiet (fail)
        go_wp2
        go_loop [9, 10] (fun ev fv => ∃ i g : Nat, i ≤ M ∧ g * 2 ^ (M - i) = G ∧ ev = .int .i64 (1 - (i : Int)) ∧ fv = .int .u64 (g : Int)) (fun ev _ => M - (1 - intOf ev).toNat)
        case atStart => exact ⟨0, f, Nat.zero_le _, HG.out, rfl, rfl⟩
        case round =>
          obtain ⟨i, g, hi, hg, rfl, rfl⟩ := hrel
          have hgl : g ≤ G := by rw [← hg]; exact Nat.le_mul_of_pos_right _ (Nat.pow_pos (by decide))
          by_cases hlt : i < M
          · have hg2 : g * 2 ^ (M - (i + 1)) * 2 = G := by rw [← hg, show M - i = (M - (i + 1)) + 1 from by omega, Nat.pow_succ, Nat.mul_assoc]
            have hg3 : 2 * g ≤ G := by
              rw [← hg2, Nat.mul_comm]
              exact Nat.mul_le_mul_right 2 (Nat.le_mul_of_pos_right _ (Nat.pow_pos (by decide)))
            have HG2 : Hid (2 * g * 2 ^ (M - (i + 1)) = G) := Lib.hid (by rw [← hg2, Nat.mul_assoc 2, Nat.mul_comm 2])
            have hq : ((g : Int) / 1024 == 0) = true := by rw [show (g : Int) / 1024 = 0 from by omega]; rfl
            have hgi : 2 * (g : Int) = ((2 * g : Nat) : Int) := by omega
            clear hg hg2 hgi
            go_wp2
            go_round
            case rel => exact ⟨i + 1, 2 * g, hlt, HG2.out, by go_num, by go_num⟩
            case measure => simp [intOf]; omega
          · obtain rfl : i = M := by omega
            rw [Nat.sub_self, Nat.pow_zero, Nat.mul_one] at hg
            subst hg
            have hq : ((g : Int) / 1024 == 0) = false := by simp; omega
            have o1 := HO1.out
            have o2 := HO2.out
            have hHi := HHi.out
            have hEi := HEi.out
            go_wp2
            go_ret2
            exact ⟨rfl, below_drewN (Below.refl _ _) _⟩
    · have h0i : ((e : Int) == 0) = false := by simpa using h0
      obtain ⟨E, hE⟩ : ∃ E, E = e + 1008 := ⟨_, rfl⟩
      have hEi : (e : Int) - 15 + 1023 = (E : Int) := by omega
      have HW : Hid (wid16 b = s * 9223372036854775808 + E * 4503599627370496 + f * 4398046511104) := Lib.hid (by rw [wid16, if_neg (by omega), if_neg (by omega)]; omega)
      obtain ⟨r1, hr1⟩ : ∃ r1, r1 = s * 9223372036854775808 + E * 4503599627370496 := ⟨_, rfl⟩
      obtain ⟨r2, hr2⟩ : ∃ r2, r2 = r1 + f * 4398046511104 := ⟨_, rfl⟩
      have o1 : bits .or .u64 ((s : Int) * 9223372036854775808) ((E : Int) * 4503599627370496) = (r1 : Int) := by
        rw [hr1]; exact or_64 (s * 9223372036854775808) (E * 4503599627370496) 63 (by omega) (by omega) (by omega) _ _ (by omega) (by omega)
      have o2 : bits .or .u64 (r1 : Int) ((f : Int) * 4398046511104) = (r2 : Int) := by
        rw [hr2]; exact or_64 r1 (f * 4398046511104) 52 (by omega) (by omega) (by omega) _ _ rfl (by omega)
      have hE3 : E < 2048 := by omega
      rw [HW.out, ← hr1, ← hr2]
      clear hr1 hr2 HW he hf hs hE
      go_enter Tryz.func119, Tryz.ntmps119
      go_wp2_with (first | (go_at_call 157; refine (rIsWidth_calls _ _).mono ?_; rintro o w1 ⟨rfl, rfl⟩) | (go_at_call 158; refine (rsizes_calls _ 10 5 _ (.inl ⟨rfl, rfl, rfl⟩)).mono ?_; rintro o w1 ⟨rfl, rfl⟩))
      go_quiet (fail)
      go_wp2
      go_ret2
      exact ⟨rfl, below_drewN (Below.refl _ _) _⟩

set_option maxRecDepth 100000 in
set_option maxHeartbeats 1000000 in
theorem rWiden32 (b : Nat) (w : World) (hb : b < 4294967296) : Calls Tryz.prog 119 #[.int .u64 (b : Int), .int .i64 32] w fun o w' => o = .returned (.tuple #[.int .u64 (wid32 b : Nat), .int .i64 0]) ∧ Below w.heap.size w w' := by
  have hz : ((b : Int) / 4294967296 != 0) = false := by rw [show (b : Int) / 4294967296 = 0 from by omega]; rfl
  have a1 : bits .and .u64 ((b : Int) / 8388608) 255 = ((b / 8388608 % 256 : Nat) : Int) := and_64 (b / 8388608) 8 255 (by decide) (by decide) (by omega) _ _ (by omega) rfl
  have a2 : bits .and .u64 (b : Int) 8388607 = ((b % 8388608 : Nat) : Int) := and_64 b 23 8388607 (by decide) (by decide) (by omega) _ _ rfl rfl
  obtain ⟨e, he⟩ : ∃ e, e = b / 8388608 % 256 := ⟨_, rfl⟩
  obtain ⟨f, hf⟩ : ∃ f, f = b % 8388608 := ⟨_, rfl⟩
  obtain ⟨s, hs⟩ : ∃ s, s = b / 2147483648 := ⟨_, rfl⟩
  have hsi : (b : Int) / 2147483648 = (s : Int) := by omega
  rw [← he] at a1
  rw [← hf] at a2
  have he32 : e < 256 := by omega
  have hf10 : f < 8388608 := by omega
  have hs2 : s < 2 := by omega
  by_cases h31 : e = 255
  · have HW : Hid (wid32 b = s * 9223372036854775808 + 9218868437227405312 + f * 536870912) := Lib.hid (by rw [wid32, if_pos (by omega)]; omega)
    obtain ⟨r1, hr1⟩ : ∃ r1, r1 = s * 9223372036854775808 + 9218868437227405312 := ⟨_, rfl⟩
    obtain ⟨r2, hr2⟩ : ∃ r2, r2 = r1 + f * 536870912 := ⟨_, rfl⟩
    have o1 : bits .or .u64 ((s : Int) * 9223372036854775808) 9218868437227405312 = (r1 : Int) := by
      rw [hr1]; exact or_64 (s * 9223372036854775808) 9218868437227405312 63 (by decide) (by omega) (by omega) _ _ (by omega) rfl
    have o2 : bits .or .u64 (r1 : Int) ((f : Int) * 536870912) = (r2 : Int) := by
      rw [hr2]; exact or_64 r1 (f * 536870912) 52 (by omega) (by omega) (by omega) _ _ rfl (by omega)
    rw [HW.out, ← hr1, ← hr2]
    clear hr1 hr2 HW he hf hs
    subst h31
    go_enter Tryz.func119, Tryz.ntmps119
    go_wp2_with (first | (go_at_call 157; refine (rIsWidth_calls _ _).mono ?_; rintro o w1 ⟨rfl, rfl⟩) | (go_at_call 158; refine (rsizes_calls _ 23 8 _ (.inr ⟨rfl, rfl, rfl⟩)).mono ?_; rintro o w1 ⟨rfl, rfl⟩))
    go_quiet (fail)
    go_wp2
    go_ret2
    exact ⟨rfl, below_drewN (Below.refl _ _) _⟩
  · have hE1 : ((e : Int) == 255) = false := by simp; omega
    by_cases h0 : e = 0
    · subst h0
      by_cases hf0 : f = 0
      · have HW : Hid (wid32 b = s * 9223372036854775808) := Lib.hid (by rw [wid32, if_neg (by omega), if_pos (by omega), if_pos (by omega)]; omega)
        obtain ⟨r1, hr1⟩ : ∃ r1, r1 = s * 9223372036854775808 := ⟨_, rfl⟩
        have hr1i : (s : Int) * 9223372036854775808 = (r1 : Int) := by omega
        rw [HW.out, ← hr1]
        clear hr1 HW he hf hs
        subst hf0
        go_enter Tryz.func119, Tryz.ntmps119
        go_wp2_with (first | (go_at_call 157; refine (rIsWidth_calls _ _).mono ?_; rintro o w1 ⟨rfl, rfl⟩) | (go_at_call 158; refine (rsizes_calls _ 23 8 _ (.inr ⟨rfl, rfl, rfl⟩)).mono ?_; rintro o w1 ⟨rfl, rfl⟩))
        go_quiet (fail)
        go_wp2
        go_ret2
        exact ⟨rfl, below_drewN (Below.refl _ _) _⟩
      · obtain ⟨j, hj, hj1, hj2, hj3⟩ := log_cases32 hf0 hf10
        have hpow : 2 ^ (23 - j) * 2 ^ j = 8388608 := by rw [← Nat.pow_add, show 23 - j + j = 23 from by omega]
        have hpow2 : 2 ^ (52 - j) = 2 ^ (23 - j) * 536870912 := by rw [show 52 - j = (23 - j) + 29 from by omega, Nat.pow_add]
        obtain ⟨M, hM⟩ : ∃ M, M = 23 - j := ⟨_, rfl⟩
        obtain ⟨G, hG⟩ : ∃ G, G = f * 2 ^ M := ⟨_, rfl⟩
        have hG1 : 8388608 ≤ G := by rw [hG, ← hpow, ← hM, Nat.mul_comm]; exact Nat.mul_le_mul_right _ hj2
        have hG2 : G < 16777216 := by
          have h5 := Nat.mul_lt_mul_of_pos_right hj3 (show 0 < 2 ^ M from Nat.pow_pos (by decide))
          rw [Nat.pow_succ, Nat.mul_comm (2 ^ j) 2, Nat.mul_assoc, Nat.mul_comm (2 ^ j), hM, hpow, ← hM, ← hG] at h5
          omega
        obtain ⟨E, hE⟩ : ∃ E, E = 874 + j := ⟨_, rfl⟩
        have HW : Hid (wid32 b = s * 9223372036854775808 + E * 4503599627370496 + (G - 8388608) * 536870912) := Lib.hid (by
          have h6 : f * 2 ^ (52 - j) = G * 536870912 := by rw [hpow2, ← hM, ← Nat.mul_assoc, ← hG]
          rw [wid32, if_neg (by omega), if_pos (by omega), if_neg (by omega), ← hf, hj, h6, ← hs, ← hE]
          omega)
        have HG : Hid (f * 2 ^ M = G) := Lib.hid hG.symm
        obtain ⟨H, hH⟩ : ∃ H, H = G - 8388608 := ⟨_, rfl⟩
        have hHi : (G : Int) - 8388608 = (H : Int) := by omega
        have hEi : 1 - (M : Int) - 127 + 1023 = (E : Int) := by omega
        obtain ⟨r1, hr1⟩ : ∃ r1, r1 = s * 9223372036854775808 + E * 4503599627370496 := ⟨_, rfl⟩
        obtain ⟨r2, hr2⟩ : ∃ r2, r2 = r1 + H * 536870912 := ⟨_, rfl⟩
        have o1 : bits .or .u64 ((s : Int) * 9223372036854775808) ((E : Int) * 4503599627370496) = (r1 : Int) := by
          rw [hr1]; exact or_64 (s * 9223372036854775808) (E * 4503599627370496) 63 (by omega) (by omega) (by omega) _ _ (by omega) (by omega)
        have o2 : bits .or .u64 (r1 : Int) ((H : Int) * 536870912) = (r2 : Int) := by
          rw [hr2]; exact or_64 r1 (H * 536870912) 52 (by omega) (by omega) (by omega) _ _ rfl (by omega)
        have hE3 : E < 2048 := by omega
        have hM1 : M ≤ 23 := by omega
        have hH3 : H < 8388608 := by omega
        have hf0i : ((f : Int) == 0) = false := by simpa using hf0
        have HO1 := Lib.hid o1
        have HO2 := Lib.hid o2
        have HHi := Lib.hid hHi
        have HEi := Lib.hid hEi
        rw [HW.out, ← hH, ← hr1, ← hr2]
        clear hr1 hr2 HW he hf hs hE hH hM hG hpow hpow2 hj hj1 hj2 hj3 o1 o2 hHi hEi hf0
        go_enter Tryz.func119, Tryz.ntmps119
        go_wp2_with (first | (go_at_call 157; refine (rIsWidth_calls _ _).mono ?_; rintro o w1 ⟨rfl, rfl⟩) | (go_at_call 158; refine (rsizes_calls _ 23 8 _ (.inr ⟨rfl, rfl, rfl⟩)).mono ?_; rintro o w1 ⟨rfl, rfl⟩))
        go_quiet (fail)
        go_wp2
        go_loop [9, 10] (fun ev fv => ∃ i g : Nat, i ≤ M ∧ g * 2 ^ (M - i) = G ∧ ev = .int .i64 (1 - (i : Int)) ∧ fv = .int .u64 (g : Int)) (fun ev _ => M - (1 - intOf ev).toNat)
        case atStart => exact ⟨0, f, Nat.zero_le _, HG.out, rfl, rfl⟩
        case round =>
          obtain ⟨i, g, hi, hg, rfl, rfl⟩ := hrel
          have hgl : g ≤ G := by rw [← hg]; exact Nat.le_mul_of_pos_right _ (Nat.pow_pos (by decide))
          by_cases hlt : i < M
          · have hg2 : g * 2 ^ (M - (i + 1)) * 2 = G := by rw [← hg, show M - i = (M - (i + 1)) + 1 from by omega, Nat.pow_succ, Nat.mul_assoc]
            have hg3 : 2 * g ≤ G := by
              rw [← hg2, Nat.mul_comm]
              exact Nat.mul_le_mul_right 2 (Nat.le_mul_of_pos_right _ (Nat.pow_pos (by decide)))
            have HG2 : Hid (2 * g * 2 ^ (M - (i + 1)) = G) := Lib.hid (by rw [← hg2, Nat.mul_assoc 2, Nat.mul_comm 2])
            have hq : ((g : Int) / 8388608 == 0) = true := by rw [show (g : Int) / 8388608 = 0 from by omega]; rfl
            have hgi : 2 * (g : Int) = ((2 * g : Nat) : Int) := by omega
            clear hg hg2 hgi
            go_wp2
            go_round
            case rel => exact ⟨i + 1, 2 * g, hlt, HG2.out, by go_num, by go_num⟩
            case measure => simp [intOf]; omega
          · obtain rfl : i = M := by omega
            rw [Nat.sub_self, Nat.pow_zero, Nat.mul_one] at hg
            subst hg
            have hq : ((g : Int) / 8388608 == 0) = false := by simp; omega
            have o1 := HO1.out
            have o2 := HO2.out
            have hHi := HHi.out
            have hEi := HEi.out
            go_wp2
            go_ret2
            exact ⟨rfl, below_drewN (Below.refl _ _) _⟩
    · have h0i : ((e : Int) == 0) = false := by simpa using h0
      obtain ⟨E, hE⟩ : ∃ E, E = e + 896 := ⟨_, rfl⟩
      have hEi : (e : Int) - 127 + 1023 = (E : Int) := by omega
      have HW : Hid (wid32 b = s * 9223372036854775808 + E * 4503599627370496 + f * 536870912) := Lib.hid (by rw [wid32, if_neg (by omega), if_neg (by omega)]; omega)
      obtain ⟨r1, hr1⟩ : ∃ r1, r1 = s * 9223372036854775808 + E * 4503599627370496 := ⟨_, rfl⟩
      obtain ⟨r2, hr2⟩ : ∃ r2, r2 = r1 + f * 536870912 := ⟨_, rfl⟩
      have o1 : bits .or .u64 ((s : Int) * 9223372036854775808) ((E : Int) * 4503599627370496) = (r1 : Int) := by
        rw [hr1]; exact or_64 (s * 9223372036854775808) (E * 4503599627370496) 63 (by omega) (by omega) (by omega) _ _ (by omega) (by omega)
      have o2 : bits .or .u64 (r1 : Int) ((f : Int) * 536870912) = (r2 : Int) := by
        rw [hr2]; exact or_64 r1 (f * 536870912) 52 (by omega) (by omega) (by omega) _ _ rfl (by omega)
      have hE3 : E < 2048 := by omega
      rw [HW.out, ← hr1, ← hr2]
      clear hr1 hr2 HW he hf hs hE
      go_enter Tryz.func119, Tryz.ntmps119
      go_wp2_with (first | (go_at_call 157; refine (rIsWidth_calls _ _).mono ?_; rintro o w1 ⟨rfl, rfl⟩) | (go_at_call 158; refine (rsizes_calls _ 23 8 _ (.inr ⟨rfl, rfl, rfl⟩)).mono ?_; rintro o w1 ⟨rfl, rfl⟩))
      go_quiet (fail)
      go_wp2
      go_ret2
      exact ⟨rfl, below_drewN (Below.refl _ _) _⟩


/-- What a call that widens tells. -/
def WidP (r : Option Nat) (w : World) (o : Ending) (w' : World) : Prop := o = .returned (.tuple #[.int .u64 (r.getD 0 : Nat), .int .i64 (if r.isSome = true then 0 else 2)]) ∧ Below w.heap.size w w'
set_option maxRecDepth 100000 in
set_option maxHeartbeats 1000000 in
theorem rWiden_no (b : Nat) (x : Int) (w : World) (hx : isW x = false) : Calls Tryz.prog 119 #[.int .u64 (b : Int), .int .i64 x] w fun o w' => o = .returned (.tuple #[.int .u64 0, .int .i64 2]) ∧ Below w.heap.size w w' := by
  have HX := Lib.hid (fun w => (rIsWidth_calls x w).mono fun o w' (h : _ ∧ _) => (show o = .returned (.bool false) ∧ w = w' from ⟨by rw [h.1, hx], h.2⟩))
  clear hx
  go_enter Tryz.func119, Tryz.ntmps119
  go_wp2_with (go_at_call 157; refine (HX.out _).mono ?_; rintro o w1 ⟨rfl, rfl⟩)
  go_ret2
  exact ⟨rfl, Below.refl _ _⟩
set_option maxRecDepth 100000 in
set_option maxHeartbeats 1000000 in
theorem rWiden_64 (b : Nat) (w : World) : Calls Tryz.prog 119 #[.int .u64 (b : Int), .int .i64 64] w fun o w' => o = .returned (.tuple #[.int .u64 (b : Int), .int .i64 0]) ∧ Below w.heap.size w w' := by
  go_enter Tryz.func119, Tryz.ntmps119
  go_wp2_with (go_at_call 157; refine (rIsWidth_calls _ _).mono ?_; rintro o w1 ⟨rfl, rfl⟩)
  go_ret2
  exact ⟨rfl, Below.refl _ _⟩
set_option maxRecDepth 100000 in
set_option maxHeartbeats 1000000 in
theorem rWiden_much (b : Nat) (x : Int) (w : World) (h : (x = 16 ∧ 65536 ≤ b) ∨ (x = 32 ∧ 4294967296 ≤ b)) : Calls Tryz.prog 119 #[.int .u64 (b : Int), .int .i64 x] w fun o w' => o = .returned (.tuple #[.int .u64 0, .int .i64 2]) ∧ Below w.heap.size w w' := by
  rcases h with ⟨rfl, h⟩ | ⟨rfl, h⟩
  · have hz : ((b : Int) / 65536 != 0) = true := by simp; omega
    go_enter Tryz.func119, Tryz.ntmps119
    go_wp2_with (go_at_call 157; refine (rIsWidth_calls _ _).mono ?_; rintro o w1 ⟨rfl, rfl⟩)
    go_ret2
    exact ⟨rfl, Below.refl _ _⟩
  · have hz : ((b : Int) / 4294967296 != 0) = true := by simp; omega
    go_enter Tryz.func119, Tryz.ntmps119
    go_wp2_with (go_at_call 157; refine (rIsWidth_calls _ _).mono ?_; rintro o w1 ⟨rfl, rfl⟩)
    go_ret2
    exact ⟨rfl, Below.refl _ _⟩
theorem rWiden_calls (b : Nat) (x : Int) (w : World) : Calls Tryz.prog 119 #[.int .u64 (b : Int), .int .i64 x] w (WidP (widO b x) w) := by
  by_cases h16 : x = 16
  · subst h16
    by_cases hb : b < 65536
    · refine (rWiden16 b w hb).mono ?_
      rintro o w' ⟨rfl, hw⟩
      exact ⟨by rw [widO, if_pos rfl, if_pos hb]; rfl, hw⟩
    · refine (rWiden_much b 16 w (.inl ⟨rfl, by omega⟩)).mono ?_
      rintro o w' ⟨rfl, hw⟩
      exact ⟨by rw [widO, if_pos rfl, if_neg hb]; rfl, hw⟩
  · by_cases h32 : x = 32
    · subst h32
      by_cases hb : b < 4294967296
      · refine (rWiden32 b w hb).mono ?_
        rintro o w' ⟨rfl, hw⟩
        exact ⟨by rw [widO, if_neg h16, if_pos rfl, if_pos hb]; rfl, hw⟩
      · refine (rWiden_much b 32 w (.inr ⟨rfl, by omega⟩)).mono ?_
        rintro o w' ⟨rfl, hw⟩
        exact ⟨by rw [widO, if_neg h16, if_pos rfl, if_neg hb]; rfl, hw⟩
    · by_cases h64 : x = 64
      · subst h64
        refine (rWiden_64 b w).mono ?_
        rintro o w' ⟨rfl, hw⟩
        exact ⟨by rw [widO, if_neg h16, if_neg h32, if_pos rfl]; rfl, hw⟩
      · refine (rWiden_no b x w (by simp [isW, h16, h32, h64])).mono ?_
        rintro o w' ⟨rfl, hw⟩
        exact ⟨by rw [widO, if_neg h16, if_neg h32, if_neg h64]; rfl, hw⟩
end Go.Proofs.YtppapkpceejnkaaGreatDoor

namespace Go.Proofs.YtppapkpceejnkaaGreatDoor
open Go.RowKit

/-- The listed table of forms. -/
def FrmT (w : World) : Prop := Lib.TabIs Tryz.prog w "targum/float.forms" .i64 [5, 10, 16, 8, 23, 32, 11, 52, 64]
theorem gFrm : Tryz.prog.globalNamed "targum/float.forms" = some 4 := by kernel_rfl
theorem FrmT.below {A B : World} (h : FrmT A) (hb : Below A.heap.size A B) : FrmT B := by
  unfold FrmT Lib.TabIs World.var? at *
  rw [gFrm] at *
  simp only [Option.bind_some] at *
  cases hA : A.heap[4]? with
  | none => rw [hA] at h; simp at h
  | some o =>
    have hlt : 4 < A.heap.size := (Array.getElem?_eq_some_iff.1 hA).1
    rw [hb.block _ hlt]; exact h
theorem FrmT.cell {w : World} (h : FrmT w) (i : Nat) (hi : i < 9) : w.cell? ⟨4, i, none⟩ = some (.int .i64 (([5, 10, 16, 8, 23, 32, 11, 52, 64] : List Int).getD i 0)) :=
  Lib.TabIs.cell h gFrm i hi

theorem lt_of_cell {w : World} {b o : Nat} {v : Value} (h : w.cell? ⟨b, o, none⟩ = some v) : b < w.heap.size := by
  rcases Nat.lt_or_ge b w.heap.size with h1 | h1
  · exact h1
  · simp [World.cell?, Array.getElem?_eq_none h1] at h
/-- A form as a value. -/
def fmV (k p w : Int) : Value := .agg #[.int .i64 k, .int .i64 p, .int .i64 w]

theorem pow_small {c : Nat} (h : c ≤ 63) : 2 ^ c ≤ 9223372036854775808 := by
  have h1 : 2 ^ c ≤ 2 ^ 63 := Nat.pow_le_pow_right (by decide) h
  rwa [show (2 : Nat) ^ 63 = 9223372036854775808 from by decide] at h1
set_option maxRecDepth 100000 in
theorem ones_calls (c : Nat) (w : World) (hc : c = 4 ∨ c = 5 ∨ c = 7 ∨ c = 8 ∨ c = 10 ∨ c = 11 ∨ c = 23 ∨ c = 52) :
    Calls Tryz.prog 220 #[.int .i64 (c : Int)] w fun o w' => o = .returned (.int .u64 ((2 ^ c - 1 : Nat) : Int)) ∧ w = w' := by
  rcases hc with rfl | rfl | rfl | rfl | rfl | rfl | rfl | rfl
  all_goals
    go_enter Tryz.func220, Tryz.ntmps220
    go_wp2
    go_ret
    exact ⟨rfl, rfl⟩

set_option maxRecDepth 100000 in
theorem full_calls (k p : Nat) (w : World) (hc : k = 5 ∨ k = 8 ∨ k = 11) :
    Calls Tryz.prog 197 #[.agg #[.int .i64 (k : Int), .int .i64 (p : Int)]] w fun o w' => o = .returned (.int .u64 ((2 ^ k - 1 : Nat) : Int)) ∧ Below w.heap.size w w' := by
  go_enter Tryz.func197, Tryz.ntmps197
  go_wp2_with (go_at_call 220; refine (ones_calls k _ (by omega)).mono ?_; rintro o w1 ⟨rfl, rfl⟩)
  go_ret
  exact ⟨rfl, (Below.refl _ _).alloc (Nat.le_refl _) _⟩

set_option maxRecDepth 100000 in
theorem least_calls (k p : Nat) (L : Int) (w : World) (hc : (k = 5 ∧ p = 10 ∧ L = -24) ∨ (k = 8 ∧ p = 23 ∧ L = -149) ∨ (k = 11 ∧ p = 52 ∧ L = -1074)) :
    Calls Tryz.prog 222 #[.agg #[.int .i64 (k : Int), .int .i64 (p : Int)]] w fun o w' => o = .returned (.int .i64 L) ∧ Below w.heap.size w w' := by
  rcases hc with ⟨rfl, rfl, rfl⟩ | ⟨rfl, rfl, rfl⟩ | ⟨rfl, rfl, rfl⟩
  · go_enter Tryz.func222, Tryz.ntmps222
    go_wp2_with (go_at_call 220; refine (ones_calls 4 _ (by omega)).mono ?_; rintro o w1 ⟨rfl, rfl⟩)
    go_ret
    exact ⟨rfl, (Below.refl _ _).alloc (Nat.le_refl _) _⟩
  · go_enter Tryz.func222, Tryz.ntmps222
    go_wp2_with (go_at_call 220; refine (ones_calls 7 _ (by omega)).mono ?_; rintro o w1 ⟨rfl, rfl⟩)
    go_ret
    exact ⟨rfl, (Below.refl _ _).alloc (Nat.le_refl _) _⟩
  · go_enter Tryz.func222, Tryz.ntmps222
    go_wp2_with (go_at_call 220; refine (ones_calls 10 _ (by omega)).mono ?_; rintro o w1 ⟨rfl, rfl⟩)
    go_ret
    exact ⟨rfl, (Below.refl _ _).alloc (Nat.le_refl _) _⟩

set_option maxRecDepth 100000 in
theorem widest_calls (w : World) (hT : FrmT w) : Calls Tryz.prog 167 #[] w fun o w' => o = .returned (fmV 11 52 64) ∧ Below w.heap.size w w' := by
  have c6 : w.cell? ⟨4, 6, none⟩ = some (.int .i64 11) := hT.cell 6 (by decide)
  have c7 : w.cell? ⟨4, 7, none⟩ = some (.int .i64 52) := hT.cell 7 (by decide)
  have c8 : w.cell? ⟨4, 8, none⟩ = some (.int .i64 64) := hT.cell 8 (by decide)
  have hz : 4 < w.heap.size := lt_of_cell c6
  clear hT
  go_enter Tryz.func167, Tryz.ntmps167
  go_wp2
  refine bodyPost_ret (v := fmV 11 52 64) (by simp [results, Tryz.results167, go_sem, fmV]) rfl ?_
  exact ⟨rfl, (Below.refl _ _).alloc (Nat.le_refl _) _⟩
end Go.Proofs.YtppapkpceejnkaaGreatDoor

namespace Go.Proofs.YtppapkpceejnkaaGreatDoor
open Go.RowKit

/-- A block known whole. -/
def At (W : World) (B : Nat) (cs : Array Value) (T : TypeId) : Prop := W.heap[B]? = some (.cells cs T (0, 0))
theorem At.lt {W : World} {B : Nat} {cs : Array Value} {T : TypeId} (h : At W B cs T) : B < W.heap.size := (Array.getElem?_eq_some_iff.1 h).1
theorem At.c {W : World} {B : Nat} {cs : Array Value} {T : TypeId} (h : At W B cs T) (i : Nat) {v : Value} (hv : cs[i]? = some v) : W.cell? ⟨B, i, none⟩ = some v := by simp [World.cell?, show W.heap[B]? = _ from h, hv]
theorem At.f {W : World} {B : Nat} {cs : Array Value} {T : TypeId} (h : At W B cs T) (i : Nat) : W.frozen? ⟨B, i, none⟩ = false := frozen_of_row W B i _ _ h
theorem At.below {W W' : World} {B : Nat} {cs : Array Value} {T : TypeId} (h : At W B cs T) (hb : Below W.heap.size W W') : At W' B cs T := (hb.block B h.lt).trans h
theorem At.new (W : World) (cs : Array Value) (T : TypeId) : At (W.alloc (.cells cs T)) W.heap.size cs T := heap_alloc_new W _
theorem At.alloc {W : World} {B : Nat} {cs : Array Value} {T : TypeId} (h : At W B cs T) (o : Obj) : At (W.alloc o) B cs T := h.below ((Below.refl _ W).alloc (Nat.le_refl _) o)
theorem At.new1 (W : World) (o : Obj) (cs : Array Value) (T : TypeId) : At ((W.alloc o).alloc (.cells cs T)) (W.heap.size + 1) cs T := by
  have := At.new (W.alloc o) cs T
  rwa [World.size_alloc] at this
theorem At.new2 (W : World) (o o' : Obj) (cs : Array Value) (T : TypeId) : At (((W.alloc o).alloc o').alloc (.cells cs T)) (W.heap.size + 1 + 1) cs T := by
  have := At.new ((W.alloc o).alloc o') cs T
  rwa [World.size_alloc, World.size_alloc] at this
theorem At.off {W : World} {B C i : Nat} {cs : Array Value} {T : TypeId} {v : Value} (h : At W B cs T) (hne : B ≠ C) : At (W.setCell ⟨C, i, none⟩ v) B cs T := (heap_setCell_other W ⟨C, i, none⟩ B _ hne).trans h
theorem below2 {w W : World} {B : Nat} (h : Below w.heap.size w W) (hB : w.heap.size ≤ B) (a b : Value) : Below w.heap.size w ((W.setCell ⟨B, 0, none⟩ a).setCell ⟨B, 1, none⟩ b) :=
  (h.setCell (p := ⟨B, 0, none⟩) hB _).setCell (p := ⟨B, 1, none⟩) hB _
/-- The listed table of the library. -/
def BruT (w : World) : Prop := TabAt 8 Lib.deBruijn64tab w
theorem BruT.below {A B : World} (h : BruT A) (hb : Below A.heap.size A B) : BruT B := fun j hj =>
  (hb.cell (p := ⟨8, j, none⟩) (lt_of_cell (h j hj))).trans (h j hj)

set_option maxRecDepth 100000 in
set_option maxHeartbeats 1000000 in
theorem tz_core (x k idx : Nat) (w : World) (hx0 : ((x : Int) == 0) = false)
    (key : IntKind.u64.wrap (bits BinOp.and IntKind.u64 (x : Int) (IntKind.u64.wrap (-(x : Int))) * 285870213051353865) / 288230376151711744 = (idx : Int))
    (hi : idx < 64) (hk : k < 64) (hcell : w.cell? ⟨8, idx, none⟩ = some (.int .u8 k)) :
    Calls Tryz.prog 240 #[.int .u64 (x : Int)] w fun e w' => e = .returned (.int .i64 (k : Int)) ∧ w = w' := by
  go_enter Tryz.func240, Tryz.ntmps240
  go_wp2_with (simp only [key])
  go_ret
  exact ⟨rfl, rfl⟩
theorem tz_calls (x : Nat) (w : World) (hx : x < 18446744073709551616) (hx0 : x ≠ 0) (hT : BruT w) :
    Calls Tryz.prog 240 #[.int .u64 (x : Int)] w fun e w' => e = .returned (.int .i64 (Lib.ctz 64 x : Nat)) ∧ w = w' := by
  obtain ⟨hlow, hk⟩ := Lib.lowest_bit 64 x hx0 hx
  obtain ⟨hi, htab⟩ := Lib.deBruijn64_at _ hk
  refine tz_core x _ _ w (by simpa using hx0) (tz64_key x _ hx hx0 hlow) hi hk ?_
  rw [hT _ (Nat.lt_of_lt_of_eq hi (by decide)), htab]
theorem ctz_odd {x o t : Nat} (hx : x = o * 2 ^ t) (ho : o % 2 ≠ 0) (h64 : x < 2 ^ 64) : Lib.ctz 64 x = t := by
  have ho0 : o ≠ 0 := fun e => by rw [e] at ho; exact ho rfl
  have hx0 : x ≠ 0 := by rw [hx]; exact Nat.mul_ne_zero ho0 (Nat.ne_of_gt (Nat.pow_pos (by decide)))
  rw [Lib.ctz, if_neg hx0]
  obtain ⟨m, hm, hk⟩ := Lib.ctzFrom_spec 64 x (by omega) h64
  have h1 := strp2_eq (o := o) (k := t) ho (f := t + Lib.ctzFrom 64 x + 1) (by omega)
  have h2 := strp2_eq (o := 2 * m + 1) (k := Lib.ctzFrom 64 x) (by omega) (f := t + Lib.ctzFrom 64 x + 1) (by omega)
  rw [← hx] at h1
  rw [Nat.mul_comm, ← hm, h1] at h2
  exact (Prod.mk.inj h2).2.symm

set_option maxRecDepth 100000 in
set_option maxHeartbeats 1000000 in
theorem reduced_pos (m o t : Nat) (x : Int) (w : World) (hm : m = o * 2 ^ t) (ho : o % 2 ≠ 0) (h64 : m < 18446744073709551616) (ht : t < 64) (hx1 : -100000 ≤ x) (hx2 : x ≤ 100000) (hT : BruT w) :
    Calls Tryz.prog 223 #[.int .u64 (m : Int), .int .i64 x] w fun e w' => e = .returned (.agg #[.int .u64 (o : Int), .int .i64 (x + t)]) ∧ Below w.heap.size w w' := by
  have ho0 : o ≠ 0 := fun e => by rw [e] at ho; exact ho rfl
  have hm0 : m ≠ 0 := by rw [hm]; exact Nat.mul_ne_zero ho0 (Nat.ne_of_gt (Nat.pow_pos (by decide)))
  have hm0i : ((m : Int) == 0) = false := by simpa using hm0
  have HC := Lib.hid (fun (W : World) (h : BruT W) => tz_calls m W h64 hm0 h)
  have HE := Lib.hid (ctz_odd hm ho h64)
  have HT := Lib.hid (hT.below ((Below.refl _ w).alloc (Nat.le_refl _) (.cells #[.int .u64 0, .int .i64 0] 262)))
  have hdi : (m : Int) / 2 ^ t = (o : Int) := by
    have h1 : m / 2 ^ t = o := by rw [hm]; exact Nat.mul_div_cancel _ (Nat.pow_pos (by decide))
    rw [← h1]; simp
  clear hm hT
  go_enter Tryz.func223, Tryz.ntmps223
  go_wp2_with fail
  refine (HC.out _ HT.out).mono ?_
  rintro e w1 ⟨rfl, rfl⟩
  rw [HE.out]
  go_wp2
  refine bodyPost_ret (v := .agg #[.int .u64 (o : Int), .int .i64 (x + t)]) (by simp [results, Tryz.results223, go_sem]) rfl ?_
  exact ⟨rfl, (Below.refl _ _).alloc (Nat.le_refl _) _⟩
set_option maxRecDepth 100000 in
theorem reduced_zero (x : Int) (w : World) :
    Calls Tryz.prog 223 #[.int .u64 0, .int .i64 x] w fun e w' => e = .returned (.agg #[.int .u64 0, .int .i64 0]) ∧ Below w.heap.size w w' := by
  go_enter Tryz.func223, Tryz.ntmps223
  go_wp2
  refine bodyPost_ret (v := .agg #[.int .u64 0, .int .i64 0]) (by simp [results, Tryz.results223, go_sem]) rfl ?_
  exact ⟨rfl, (Below.refl _ _).alloc (Nat.le_refl _) _⟩
/-- A value as a value. -/
def vlV (v : Nat × Int) : Value := .agg #[.int .u64 (v.1 : Int), .int .i64 v.2]
theorem reduced_calls (m : Nat) (x : Int) (w : World) (h64 : m < 18446744073709551616) (hx1 : -100000 ≤ x) (hx2 : x ≤ 100000) (hT : BruT w) :
    Calls Tryz.prog 223 #[.int .u64 (m : Int), .int .i64 x] w fun e w' => e = .returned (vlV (valN m x)) ∧ Below w.heap.size w w' := by
  by_cases h0 : m = 0
  · subst h0
    rw [valN_zero]
    exact reduced_zero x w
  · obtain ⟨o, t, hm, ho, _, ht, hv, _⟩ := val_parts h0 (by rw [e64]; exact h64) x
    rw [hv]
    exact reduced_pos m o t x w hm ho h64 ht hx1 hx2 hT
theorem reduced_is (m : Nat) (x y z : Int) (w : World) (h64 : m < 18446744073709551616) (hx1 : -100000 ≤ x) (hx2 : x ≤ 100000) (hy : y = (m : Int)) (hz : z = x) (hT : BruT w) :
    Calls Tryz.prog 223 #[.int .u64 y, .int .i64 z] w fun e w' => e = .returned (vlV (valN m x)) ∧ Below w.heap.size w w' := by
  subst hy hz; exact reduced_calls m _ w h64 hx1 hx2 hT
end Go.Proofs.YtppapkpceejnkaaGreatDoor

namespace Go.Proofs.YtppapkpceejnkaaGreatDoor
open Go.RowKit

/-- One of the three forms: its exponent's digits, its fraction's, its width, its least power. -/
def IsF (k p w : Nat) (L : Int) : Prop := (k = 5 ∧ p = 10 ∧ w = 16 ∧ L = -24) ∨ (k = 8 ∧ p = 23 ∧ w = 32 ∧ L = -149) ∨ (k = 11 ∧ p = 52 ∧ w = 64 ∧ L = -1074)
theorem ones_same (c : Nat) (w : World) (hc : c = 4 ∨ c = 5 ∨ c = 7 ∨ c = 8 ∨ c = 10 ∨ c = 11 ∨ c = 23 ∨ c = 52) :
    Calls Tryz.prog 220 #[.int .i64 (c : Int)] w fun o w' => o = .returned (.int .u64 ((2 ^ c - 1 : Nat) : Int)) ∧ w' = w := (ones_calls c w hc).mono fun _ _ ⟨h1, h2⟩ => ⟨h1, h2.symm⟩

set_option maxRecDepth 100000 in
set_option maxHeartbeats 1000000 in
theorem split_calls (k p wd : Nat) (L : Int) (b : Nat) (w : World) (hF : IsF k p wd L) (hb : b < 18446744073709551616) :
    Calls Tryz.prog 196 #[fmV k p wd, .int .u64 (b : Int)] w fun o w' => o = .returned (.tuple #[.int .u64 ((b / 2 ^ p / 2 ^ k : Nat) : Int), .int .u64 ((b / 2 ^ p % 2 ^ k : Nat) : Int), .int .u64 ((b % 2 ^ p : Nat) : Int)]) ∧ Below w.heap.size w w' := by
  rcases hF with ⟨rfl, rfl, rfl, rfl⟩ | ⟨rfl, rfl, rfl, rfl⟩ | ⟨rfl, rfl, rfl, rfl⟩
  · have a1 : bits .and .u64 ((b : Int) / 1024) 31 = ((b / 1024 % 32 : Nat) : Int) := and_64 (b / 1024) 5 31 (by decide) (by decide) (by omega) _ _ (by omega) rfl
    have a2 : bits .and .u64 (b : Int) 1023 = ((b % 1024 : Nat) : Int) := and_64 b 10 1023 (by decide) (by decide) (by omega) _ _ rfl rfl
    rw [show ((b / 2 ^ 10 / 2 ^ 5 : Nat) : Int) = (b : Int) / 1024 / 32 from by omega, show b / 2 ^ 10 % 2 ^ 5 = b / 1024 % 32 from rfl, show b % 2 ^ 10 = b % 1024 from rfl]
    unfold fmV
    go_enter Tryz.func196, Tryz.ntmps196
    go_wp2
    go_quiet ((go_at_call 220; first | exact Calls.quiet_of_same (ones_same 5 _ (by omega)) | exact Calls.quiet_of_same (ones_same 10 _ (by omega))))
    go_wp2
    go_ret3
    exact ⟨rfl, below_drewN ((Below.refl _ _).alloc (Nat.le_refl _) _) _⟩
  · have a1 : bits .and .u64 ((b : Int) / 8388608) 255 = ((b / 8388608 % 256 : Nat) : Int) := and_64 (b / 8388608) 8 255 (by decide) (by decide) (by omega) _ _ (by omega) rfl
    have a2 : bits .and .u64 (b : Int) 8388607 = ((b % 8388608 : Nat) : Int) := and_64 b 23 8388607 (by decide) (by decide) (by omega) _ _ rfl rfl
    rw [show ((b / 2 ^ 23 / 2 ^ 8 : Nat) : Int) = (b : Int) / 8388608 / 256 from by omega, show b / 2 ^ 23 % 2 ^ 8 = b / 8388608 % 256 from rfl, show b % 2 ^ 23 = b % 8388608 from rfl]
    unfold fmV
    go_enter Tryz.func196, Tryz.ntmps196
    go_wp2
    go_quiet ((go_at_call 220; first | exact Calls.quiet_of_same (ones_same 8 _ (by omega)) | exact Calls.quiet_of_same (ones_same 23 _ (by omega))))
    go_wp2
    go_ret3
    exact ⟨rfl, below_drewN ((Below.refl _ _).alloc (Nat.le_refl _) _) _⟩
  · have a1 : bits .and .u64 ((b : Int) / 4503599627370496) 2047 = ((b / 4503599627370496 % 2048 : Nat) : Int) := and_64 (b / 4503599627370496) 11 2047 (by decide) (by decide) (by omega) _ _ (by omega) rfl
    have a2 : bits .and .u64 (b : Int) 4503599627370495 = ((b % 4503599627370496 : Nat) : Int) := and_64 b 52 4503599627370495 (by decide) (by decide) (by omega) _ _ rfl rfl
    rw [show ((b / 2 ^ 52 / 2 ^ 11 : Nat) : Int) = (b : Int) / 4503599627370496 / 2048 from by omega, show b / 2 ^ 52 % 2 ^ 11 = b / 4503599627370496 % 2048 from rfl, show b % 2 ^ 52 = b % 4503599627370496 from rfl]
    unfold fmV
    go_enter Tryz.func196, Tryz.ntmps196
    go_wp2
    go_quiet ((go_at_call 220; first | exact Calls.quiet_of_same (ones_same 11 _ (by omega)) | exact Calls.quiet_of_same (ones_same 52 _ (by omega))))
    go_wp2
    go_ret3
    exact ⟨rfl, below_drewN ((Below.refl _ _).alloc (Nat.le_refl _) _) _⟩

set_option maxRecDepth 100000 in
set_option maxHeartbeats 1000000 in
theorem value_zero (k p wd : Nat) (L : Int) (f : Nat) (w : World) (hF : IsF k p wd L) (hf : f < 18446744073709551616) (hT : BruT w) :
    Calls Tryz.prog 200 #[fmV k p wd, .int .u64 0, .int .u64 (f : Int)] w fun o w' => o = .returned (vlV (valN f L)) ∧ Below w.heap.size w w' := by
  have HT := Lib.hid hT
  have hL : -100000 ≤ L ∧ L ≤ 100000 := by rcases hF with ⟨_, _, _, rfl⟩ | ⟨_, _, _, rfl⟩ | ⟨_, _, _, rfl⟩ <;> decide
  have HL := Lib.hid (fun W => least_calls k p L W (by rcases hF with ⟨h1, h2, _, h3⟩ | ⟨h1, h2, _, h3⟩ | ⟨h1, h2, _, h3⟩; exact .inl ⟨h1, h2, h3⟩; exact .inr (.inl ⟨h1, h2, h3⟩); exact .inr (.inr ⟨h1, h2, h3⟩)))
  have HR := Lib.hid (fun W h => reduced_calls f L W hf hL.1 hL.2 h)
  clear hT hF hL
  obtain ⟨V, hV⟩ : ∃ V, V = valN f L := ⟨_, rfl⟩
  rw [← hV] at HR ⊢
  clear hV
  unfold fmV
  go_enter Tryz.func200, Tryz.ntmps200
  have B0 := Lib.hid (((Below.refl _ w).alloc (Nat.le_refl _) (.cells #[.int .i64 (k : Int), .int .i64 (p : Int), .int .i64 (wd : Int)] 227)).alloc (by simp) (.cells #[.int .u64 0, .int .i64 0] 262))
  have A0 := Lib.hid (At.new1 w (.cells #[.int .i64 (k : Int), .int .i64 (p : Int), .int .i64 (wd : Int)] 227) #[.int .u64 0, .int .i64 0] 262)
  go_wp2_with fail
  refine (HL.out _).mono ?_
  rintro o w1 ⟨rfl, hb1⟩
  have B1 := Lib.hid (below_next B0.out hb1)
  have A1 := Lib.hid (A0.out.below hb1)
  clear hb1
  go_wp2_with fail
  refine (HR.out _ (HT.out.below B1.out)).mono ?_
  rintro o w2 ⟨rfl, hb2⟩
  have B2 := Lib.hid (below_next B1.out hb2)
  have A2 := Lib.hid (A1.out.below hb2)
  clear hb2
  unfold vlV
  have c0 := A2.out.c 0 rfl
  have c1 := A2.out.c 1 rfl
  have f0 := A2.out.f 0
  have f1 := A2.out.f 1
  have hz := A2.out.lt
  go_wp2
  refine bodyPost_ret (v := .agg #[.int .u64 (V.1 : Int), .int .i64 V.2]) (by simp [results, Tryz.results200, go_sem, c0, c1]) rfl ?_
  exact ⟨rfl, (B2.out.setCell (p := ⟨w.heap.size + 1, 0, none⟩) (by simp) _).setCell (p := ⟨w.heap.size + 1, 1, none⟩) (by simp) _⟩

end Go.Proofs.YtppapkpceejnkaaGreatDoor

namespace Go.Proofs.YtppapkpceejnkaaGreatDoor
open Go.RowKit

set_option maxRecDepth 100000 in
set_option maxHeartbeats 400000 in
theorem value_16 (e f : Nat) (w : World) (he : e ≠ 0) (he2 : e < 2048) (hf : f < 1024) (hT : BruT w) :
    Calls Tryz.prog 200 #[fmV 5 10 16, .int .u64 (e : Int), .int .u64 (f : Int)] w fun o w' => o = .returned (vlV (valN (1024 + f) (-24 + (e : Int) - 1))) ∧ Below w.heap.size w w' := by
  have HT := Lib.hid hT
  have he0 : ((e : Int) == 0) = false := by simpa using he
  obtain ⟨M, hM⟩ : ∃ M, M = 1024 + f := ⟨_, rfl⟩
  have hM2 : M < 18446744073709551616 := by omega
  have o1 : bits .or .u64 1024 (f : Int) = (M : Int) := by rw [hM]; exact or_64 1024 f 10 (by omega) (by decide) (by omega) _ _ rfl rfl
  rw [← hM]
  have hwA : IntKind.u64.wrap 1024 = 1024 := by decide
  have hw1 : IntKind.i64.wrap (-24 + (e : Int)) = -24 + (e : Int) := IntWalk.i64_in _ (by omega)
  have hw2 : IntKind.i64.wrap (-24 + (e : Int) - 1) = -24 + (e : Int) - 1 := IntWalk.i64_in _ (by omega)
  have hw0 : IntKind.i64.wrap (e : Int) = (e : Int) := IntWalk.i64_in _ (by omega)
  have HR := Lib.hid (fun W h => reduced_calls M (-24 + (e : Int) - 1) W hM2 (by omega) (by omega) h)
  have HL := Lib.hid (fun W => least_calls 5 10 (-24) W (by omega))
  clear hT he hM hM2
  obtain ⟨V, hV⟩ : ∃ V, V = valN M (-24 + (e : Int) - 1) := ⟨_, rfl⟩
  rw [← hV] at HR ⊢
  clear hV
  unfold fmV
  have B0 := Lib.hid (((Below.refl _ w).alloc (Nat.le_refl _) (.cells #[.int .i64 5, .int .i64 10, .int .i64 16] 227)).alloc (by simp) (.cells #[.int .u64 0, .int .i64 0] 262))
  have A0 := Lib.hid (At.new1 w (.cells #[.int .i64 5, .int .i64 10, .int .i64 16] 227) #[.int .u64 0, .int .i64 0] 262)
  have F0 := Lib.hid ((At.new w #[.int .i64 5, .int .i64 10, .int .i64 16] 227).alloc (.cells #[.int .u64 0, .int .i64 0] 262))
  obtain ⟨W0, hW0⟩ : ∃ W0, W0 = (w.alloc (.cells #[.int .i64 5, .int .i64 10, .int .i64 16] 227)).alloc (.cells #[.int .u64 0, .int .i64 0] 262) := ⟨_, rfl⟩
  rw [← hW0] at B0 A0 F0
  go_enter Tryz.func200, Tryz.ntmps200
  go_wp2_with fail
  rw [← hW0]
  clear hW0
  have A0d := Lib.hid (show At W0.drew _ _ _ from A0.out)
  have F0d := Lib.hid (show At W0.drew _ _ _ from F0.out)
  have B0d := Lib.hid B0.out.drew
  clear A0 F0 B0
  go_region_held3 (fun w' => w'.cell? ⟨w.heap.size, 0, none⟩ = some (.int .i64 5) ∧ w'.cell? ⟨w.heap.size, 1, none⟩ = some (.int .i64 10))
    (first
      | exact ⟨F0d.out.c 0 rfl, F0d.out.c 1 rfl⟩
      | exact ⟨F1.out.c 0 rfl, F1.out.c 1 rfl⟩
      | exact ⟨F2.out.c 0 rfl, F2.out.c 1 rfl⟩
      | exact ⟨((F2.out.off (by omega)).off (by omega)).c 0 rfl, ((F2.out.off (by omega)).off (by omega)).c 1 rfl⟩)
    ((first
      | (go_at_call 222; refine (HL.out _).mono ?_; rintro o w1 ⟨rfl, hb1⟩; have A1 := Lib.hid (A0d.out.below hb1); have F1 := Lib.hid (F0d.out.below hb1); have B1 := Lib.hid (below_next B0d.out hb1); clear hb1)
      | (go_at_call 223; (with_reducible refine (HR.out _ (HT.out.below B1.out)).mono ?_); rintro o w2 ⟨rfl, hb2⟩; have A2 := Lib.hid (A1.out.below hb2); have F2 := Lib.hid (F1.out.below hb2); have B2 := Lib.hid (below_next B1.out hb2); clear hb2; unfold vlV; have c0 := A2.out.c 0 rfl; have c1 := A2.out.c 1 rfl; have f0 := A2.out.f 0; have f1 := A2.out.f 1; have hz := A2.out.lt)))
  all_goals
    go_wp2
    refine bodyPost_ret (v := .agg #[.int .u64 (V.1 : Int), .int .i64 V.2]) (by simp [results, Tryz.results200, go_sem, c0, c1]) rfl ?_
    exact ⟨rfl, (B2.out.setCell (p := ⟨w.heap.size + 1, 0, none⟩) (by simp) _).setCell (p := ⟨w.heap.size + 1, 1, none⟩) (by simp) _⟩

set_option maxRecDepth 100000 in
set_option maxHeartbeats 400000 in
theorem value_32 (e f : Nat) (w : World) (he : e ≠ 0) (he2 : e < 2048) (hf : f < 8388608) (hT : BruT w) :
    Calls Tryz.prog 200 #[fmV 8 23 32, .int .u64 (e : Int), .int .u64 (f : Int)] w fun o w' => o = .returned (vlV (valN (8388608 + f) (-149 + (e : Int) - 1))) ∧ Below w.heap.size w w' := by
  have HT := Lib.hid hT
  have he0 : ((e : Int) == 0) = false := by simpa using he
  obtain ⟨M, hM⟩ : ∃ M, M = 8388608 + f := ⟨_, rfl⟩
  have hM2 : M < 18446744073709551616 := by omega
  have o1 : bits .or .u64 8388608 (f : Int) = (M : Int) := by rw [hM]; exact or_64 8388608 f 23 (by omega) (by decide) (by omega) _ _ rfl rfl
  rw [← hM]
  have hwA : IntKind.u64.wrap 8388608 = 8388608 := by decide
  have hw1 : IntKind.i64.wrap (-149 + (e : Int)) = -149 + (e : Int) := IntWalk.i64_in _ (by omega)
  have hw2 : IntKind.i64.wrap (-149 + (e : Int) - 1) = -149 + (e : Int) - 1 := IntWalk.i64_in _ (by omega)
  have hw0 : IntKind.i64.wrap (e : Int) = (e : Int) := IntWalk.i64_in _ (by omega)
  have HR := Lib.hid (fun W h => reduced_calls M (-149 + (e : Int) - 1) W hM2 (by omega) (by omega) h)
  have HL := Lib.hid (fun W => least_calls 8 23 (-149) W (by omega))
  clear hT he hM hM2
  obtain ⟨V, hV⟩ : ∃ V, V = valN M (-149 + (e : Int) - 1) := ⟨_, rfl⟩
  rw [← hV] at HR ⊢
  clear hV
  unfold fmV
  have B0 := Lib.hid (((Below.refl _ w).alloc (Nat.le_refl _) (.cells #[.int .i64 8, .int .i64 23, .int .i64 32] 227)).alloc (by simp) (.cells #[.int .u64 0, .int .i64 0] 262))
  have A0 := Lib.hid (At.new1 w (.cells #[.int .i64 8, .int .i64 23, .int .i64 32] 227) #[.int .u64 0, .int .i64 0] 262)
  have F0 := Lib.hid ((At.new w #[.int .i64 8, .int .i64 23, .int .i64 32] 227).alloc (.cells #[.int .u64 0, .int .i64 0] 262))
  obtain ⟨W0, hW0⟩ : ∃ W0, W0 = (w.alloc (.cells #[.int .i64 8, .int .i64 23, .int .i64 32] 227)).alloc (.cells #[.int .u64 0, .int .i64 0] 262) := ⟨_, rfl⟩
  rw [← hW0] at B0 A0 F0
  go_enter Tryz.func200, Tryz.ntmps200
  go_wp2_with fail
  rw [← hW0]
  clear hW0
  have A0d := Lib.hid (show At W0.drew _ _ _ from A0.out)
  have F0d := Lib.hid (show At W0.drew _ _ _ from F0.out)
  have B0d := Lib.hid B0.out.drew
  clear A0 F0 B0
  go_region_held3 (fun w' => w'.cell? ⟨w.heap.size, 0, none⟩ = some (.int .i64 8) ∧ w'.cell? ⟨w.heap.size, 1, none⟩ = some (.int .i64 23))
    (first
      | exact ⟨F0d.out.c 0 rfl, F0d.out.c 1 rfl⟩
      | exact ⟨F1.out.c 0 rfl, F1.out.c 1 rfl⟩
      | exact ⟨F2.out.c 0 rfl, F2.out.c 1 rfl⟩
      | exact ⟨((F2.out.off (by omega)).off (by omega)).c 0 rfl, ((F2.out.off (by omega)).off (by omega)).c 1 rfl⟩)
    ((first
      | (go_at_call 222; refine (HL.out _).mono ?_; rintro o w1 ⟨rfl, hb1⟩; have A1 := Lib.hid (A0d.out.below hb1); have F1 := Lib.hid (F0d.out.below hb1); have B1 := Lib.hid (below_next B0d.out hb1); clear hb1)
      | (go_at_call 223; (with_reducible refine (HR.out _ (HT.out.below B1.out)).mono ?_); rintro o w2 ⟨rfl, hb2⟩; have A2 := Lib.hid (A1.out.below hb2); have F2 := Lib.hid (F1.out.below hb2); have B2 := Lib.hid (below_next B1.out hb2); clear hb2; unfold vlV; have c0 := A2.out.c 0 rfl; have c1 := A2.out.c 1 rfl; have f0 := A2.out.f 0; have f1 := A2.out.f 1; have hz := A2.out.lt)))
  all_goals
    go_wp2
    refine bodyPost_ret (v := .agg #[.int .u64 (V.1 : Int), .int .i64 V.2]) (by simp [results, Tryz.results200, go_sem, c0, c1]) rfl ?_
    exact ⟨rfl, (B2.out.setCell (p := ⟨w.heap.size + 1, 0, none⟩) (by simp) _).setCell (p := ⟨w.heap.size + 1, 1, none⟩) (by simp) _⟩

set_option maxRecDepth 100000 in
set_option maxHeartbeats 400000 in
theorem value_64 (e f : Nat) (w : World) (he : e ≠ 0) (he2 : e < 2048) (hf : f < 4503599627370496) (hT : BruT w) :
    Calls Tryz.prog 200 #[fmV 11 52 64, .int .u64 (e : Int), .int .u64 (f : Int)] w fun o w' => o = .returned (vlV (valN (4503599627370496 + f) (-1074 + (e : Int) - 1))) ∧ Below w.heap.size w w' := by
  have HT := Lib.hid hT
  have he0 : ((e : Int) == 0) = false := by simpa using he
  obtain ⟨M, hM⟩ : ∃ M, M = 4503599627370496 + f := ⟨_, rfl⟩
  have hM2 : M < 18446744073709551616 := by omega
  have o1 : bits .or .u64 4503599627370496 (f : Int) = (M : Int) := by rw [hM]; exact or_64 4503599627370496 f 52 (by omega) (by decide) (by omega) _ _ rfl rfl
  rw [← hM]
  have hwA : IntKind.u64.wrap 4503599627370496 = 4503599627370496 := by decide
  have hw1 : IntKind.i64.wrap (-1074 + (e : Int)) = -1074 + (e : Int) := IntWalk.i64_in _ (by omega)
  have hw2 : IntKind.i64.wrap (-1074 + (e : Int) - 1) = -1074 + (e : Int) - 1 := IntWalk.i64_in _ (by omega)
  have hw0 : IntKind.i64.wrap (e : Int) = (e : Int) := IntWalk.i64_in _ (by omega)
  have HR := Lib.hid (fun W h => reduced_calls M (-1074 + (e : Int) - 1) W hM2 (by omega) (by omega) h)
  have HL := Lib.hid (fun W => least_calls 11 52 (-1074) W (by omega))
  clear hT he hM hM2
  obtain ⟨V, hV⟩ : ∃ V, V = valN M (-1074 + (e : Int) - 1) := ⟨_, rfl⟩
  rw [← hV] at HR ⊢
  clear hV
  unfold fmV
  have B0 := Lib.hid (((Below.refl _ w).alloc (Nat.le_refl _) (.cells #[.int .i64 11, .int .i64 52, .int .i64 64] 227)).alloc (by simp) (.cells #[.int .u64 0, .int .i64 0] 262))
  have A0 := Lib.hid (At.new1 w (.cells #[.int .i64 11, .int .i64 52, .int .i64 64] 227) #[.int .u64 0, .int .i64 0] 262)
  have F0 := Lib.hid ((At.new w #[.int .i64 11, .int .i64 52, .int .i64 64] 227).alloc (.cells #[.int .u64 0, .int .i64 0] 262))
  obtain ⟨W0, hW0⟩ : ∃ W0, W0 = (w.alloc (.cells #[.int .i64 11, .int .i64 52, .int .i64 64] 227)).alloc (.cells #[.int .u64 0, .int .i64 0] 262) := ⟨_, rfl⟩
  rw [← hW0] at B0 A0 F0
  go_enter Tryz.func200, Tryz.ntmps200
  go_wp2_with fail
  rw [← hW0]
  clear hW0
  have A0d := Lib.hid (show At W0.drew _ _ _ from A0.out)
  have F0d := Lib.hid (show At W0.drew _ _ _ from F0.out)
  have B0d := Lib.hid B0.out.drew
  clear A0 F0 B0
  go_region_held3 (fun w' => w'.cell? ⟨w.heap.size, 0, none⟩ = some (.int .i64 11) ∧ w'.cell? ⟨w.heap.size, 1, none⟩ = some (.int .i64 52))
    (first
      | exact ⟨F0d.out.c 0 rfl, F0d.out.c 1 rfl⟩
      | exact ⟨F1.out.c 0 rfl, F1.out.c 1 rfl⟩
      | exact ⟨F2.out.c 0 rfl, F2.out.c 1 rfl⟩
      | exact ⟨((F2.out.off (by omega)).off (by omega)).c 0 rfl, ((F2.out.off (by omega)).off (by omega)).c 1 rfl⟩)
    ((first
      | (go_at_call 222; refine (HL.out _).mono ?_; rintro o w1 ⟨rfl, hb1⟩; have A1 := Lib.hid (A0d.out.below hb1); have F1 := Lib.hid (F0d.out.below hb1); have B1 := Lib.hid (below_next B0d.out hb1); clear hb1)
      | (go_at_call 223; (with_reducible refine (HR.out _ (HT.out.below B1.out)).mono ?_); rintro o w2 ⟨rfl, hb2⟩; have A2 := Lib.hid (A1.out.below hb2); have F2 := Lib.hid (F1.out.below hb2); have B2 := Lib.hid (below_next B1.out hb2); clear hb2; unfold vlV; have c0 := A2.out.c 0 rfl; have c1 := A2.out.c 1 rfl; have f0 := A2.out.f 0; have f1 := A2.out.f 1; have hz := A2.out.lt)))
  all_goals
    go_wp2
    refine bodyPost_ret (v := .agg #[.int .u64 (V.1 : Int), .int .i64 V.2]) (by simp [results, Tryz.results200, go_sem, c0, c1]) rfl ?_
    exact ⟨rfl, (B2.out.setCell (p := ⟨w.heap.size + 1, 0, none⟩) (by simp) _).setCell (p := ⟨w.heap.size + 1, 1, none⟩) (by simp) _⟩

theorem value_calls (k p wd : Nat) (L : Int) (e f : Nat) (w : World) (hF : IsF k p wd L) (he : e < 2048) (hf : f < 2 ^ p) (hT : BruT w) :
    Calls Tryz.prog 200 #[fmV k p wd, .int .u64 (e : Int), .int .u64 (f : Int)] w fun o w' => o = .returned (vlV (valP p L e f)) ∧ Below w.heap.size w w' := by
  rw [valP]
  by_cases h0 : e = 0
  · subst h0
    rw [if_pos rfl]
    refine value_zero k p wd L f w hF ?_ hT
    rcases hF with ⟨_, rfl, _, _⟩ | ⟨_, rfl, _, _⟩ | ⟨_, rfl, _, _⟩
    · rw [e10] at hf; omega
    · rw [e23] at hf; omega
    · rw [e52] at hf; omega
  · rw [if_neg h0]
    rcases hF with ⟨rfl, rfl, rfl, rfl⟩ | ⟨rfl, rfl, rfl, rfl⟩ | ⟨rfl, rfl, rfl, rfl⟩
    · rw [e10] at hf ⊢; exact value_16 e f w h0 he hf hT
    · rw [e23] at hf ⊢; exact value_32 e f w h0 he hf hT
    · rw [e52] at hf ⊢; exact value_64 e f w h0 he hf hT
end Go.Proofs.YtppapkpceejnkaaGreatDoor
