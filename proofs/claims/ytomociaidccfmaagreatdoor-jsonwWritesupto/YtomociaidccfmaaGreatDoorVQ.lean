/- The document's own Widen, Narrow and Least once more: they keep the memory as it is. -/
import Derived.Test.YtomociaidccfmaaGreatDoorMf
import Derived.Deep.QuietTactic
import Derived.BigQuiet
import Derived.Lib.Hide
import Derived.Laws.Bits64b
import Derived.Test.YtomociaidccfmaaGreatDoorF7
namespace Go.Proofs.YtomociaidccfmaaGreatDoor.Qn
open Go.RowKit Go.Proofs.YtomociaidccfmaaGreatDoor

def Qu (w w' : World) : Prop := ∃ m, w' = w.drewN m
theorem Qu.refl (w : World) : Qu w w := ⟨0, rfl⟩
theorem Qu.mk (w : World) (m : Nat) : Qu w (w.drewN m) := ⟨m, rfl⟩
theorem Qu.trans {a b c : World} (h : Qu a b) (k : Qu b c) : Qu a c := by
  obtain ⟨m, rfl⟩ := h
  obtain ⟨n, rfl⟩ := k
  exact ⟨m + n, by rw [World.drewN_drewN]⟩

set_option maxRecDepth 100000 in
theorem rIsWidth_calls (x : Int) (w : World) : Calls Tryz.prog 56 #[.int .i64 x] w fun o w' => o = .returned (.bool (isW x)) ∧ w = w' := by
  by_cases h1 : x = 16
  · subst h1
    go_enter Tryz.func56, Tryz.ntmps56
    go_wp2
    go_ret
    exact ⟨rfl, rfl⟩
  · have e1 : (x == 16) = false := by simpa using h1
    by_cases h2 : x = 32
    · subst h2
      go_enter Tryz.func56, Tryz.ntmps56
      go_wp2
      go_ret
      exact ⟨rfl, rfl⟩
    · have e2 : (x == 32) = false := by simpa using h2
      go_enter Tryz.func56, Tryz.ntmps56
      go_wp2
      go_ret
      exact ⟨by rw [isW, e1, e2]; rfl, rfl⟩

/-- Binary digits cut off, joined. -/
theorem and_64 (a k m : Nat) (hm : m = 2 ^ k - 1) (hk : k ≤ 63) (ha : a < 18446744073709551616) (x y : Int) (hx : x = (a : Int)) (hy : y = (m : Int)) : bits .and .u64 x y = ((a % 2 ^ k : Nat) : Int) := by
  subst hx hy hm
  have h1 : 2 ^ k ≤ 2 ^ 63 := Nat.pow_le_pow_right (by decide) hk
  have h2 : (2 : Nat) ^ 63 = 9223372036854775808 := by decide
  rw [bits_and_u64_nat a (2 ^ k - 1) ha (by omega), Nat.and_two_pow_sub_one_eq_mod]
theorem or_64 (h l k : Nat) (hl : l < 2 ^ k) (hh : h % 2 ^ k = 0) (h1 : h + l < 18446744073709551616) (x y : Int) (hx : x = (h : Int)) (hy : y = (l : Int)) : bits .or .u64 x y = ((h + l : Nat) : Int) := by
  subst hx hy
  rw [bits_or_u64_nat h l (by omega) (by omega)]
  obtain ⟨q, rfl⟩ : ∃ q, h = 2 ^ k * q := ⟨h / 2 ^ k, by rw [Nat.mul_div_cancel' (Nat.dvd_of_mod_eq_zero hh)]⟩
  rw [Nat.two_pow_add_eq_or_of_lt hl]

set_option maxRecDepth 100000 in
theorem rsizes_calls (x : Int) (p k : Nat) (w : World) (h : (x = 16 ∧ p = 10 ∧ k = 5) ∨ (x = 32 ∧ p = 23 ∧ k = 8)) : Calls Tryz.prog 57 #[.int .i64 x] w fun o w' => o = .returned (.tuple #[.int .i64 (p : Int), .int .i64 (k : Int)]) ∧ w = w' := by
  rcases h with ⟨rfl, rfl, rfl⟩ | ⟨rfl, rfl, rfl⟩
  all_goals
    go_enter Tryz.func57, Tryz.ntmps57
    go_wp2
    go_ret2
    exact ⟨rfl, rfl⟩

set_option maxRecDepth 100000 in
set_option maxHeartbeats 1000000 in
theorem rWiden16 (b : Nat) (w : World) (hb : b < 65536) : Calls Tryz.prog 36 #[.int .u64 (b : Int), .int .i64 16] w fun o w' => o = .returned (.tuple #[.int .u64 (wid16 b : Nat), .int .i64 0]) ∧ Qu w w' := by
  have hz : ((b : Int) / 65536 != 0) = false := by rw [show (b : Int) / 65536 = 0 from by omega]; rfl
  have a1 : bits .and .u64 ((b : Int) / 1024) 31 = ((b / 1024 % 32 : Nat) : Int) := and_64 (b / 1024) 5 31 (by decide) (by decide) (by omega) _ _ (by omega) rfl
  have a2 : bits .and .u64 (b : Int) 1023 = ((b % 1024 : Nat) : Int) := and_64 b 10 1023 (by decide) (by decide) (by omega) _ _ rfl rfl
  obtain ⟨e, he⟩ : ∃ e, e = b / 1024 % 32 := ⟨_, rfl⟩
  obtain ⟨f, hf⟩ : ∃ f, f = b % 1024 := ⟨_, rfl⟩
  obtain ⟨s, hs⟩ : ∃ s, s = b / 32768 := ⟨_, rfl⟩
  have hsi : (b : Int) / 32768 = (s : Int) := by omega
  rw [← he] at a1
  rw [← hf] at a2
  have he32 : e < 32 := by omega
  have hf10 : f < 1024 := by omega
  have hs2 : s < 2 := by omega
  by_cases h31 : e = 31
  · have HW : Hid (wid16 b = s * 9223372036854775808 + 9218868437227405312 + f * 4398046511104) := Lib.hid (by rw [wid16, if_pos (by omega)]; omega)
    obtain ⟨r1, hr1⟩ : ∃ r1, r1 = s * 9223372036854775808 + 9218868437227405312 := ⟨_, rfl⟩
    obtain ⟨r2, hr2⟩ : ∃ r2, r2 = r1 + f * 4398046511104 := ⟨_, rfl⟩
    have o1 : bits .or .u64 ((s : Int) * 9223372036854775808) 9218868437227405312 = (r1 : Int) := by
      rw [hr1]; exact or_64 (s * 9223372036854775808) 9218868437227405312 63 (by decide) (by omega) (by omega) _ _ (by omega) rfl
    have o2 : bits .or .u64 (r1 : Int) ((f : Int) * 4398046511104) = (r2 : Int) := by
      rw [hr2]; exact or_64 r1 (f * 4398046511104) 52 (by omega) (by omega) (by omega) _ _ rfl (by omega)
    rw [HW.out, ← hr1, ← hr2]
    clear hr1 hr2 HW he hf hs
    subst h31
    go_enter Tryz.func36, Tryz.ntmps36
    go_wp2_with (first | (go_at_call 56; refine (rIsWidth_calls _ _).mono ?_; rintro o w1 ⟨rfl, rfl⟩) | (go_at_call 57; refine (rsizes_calls _ 10 5 _ (.inl ⟨rfl, rfl, rfl⟩)).mono ?_; rintro o w1 ⟨rfl, rfl⟩))
    go_quiet (fail)
    go_wp2
    go_ret2
    exact ⟨rfl, Qu.mk _ _⟩
  · have hE1 : ((e : Int) == 31) = false := by simp; omega
    by_cases h0 : e = 0
    · subst h0
      by_cases hf0 : f = 0
      · have HW : Hid (wid16 b = s * 9223372036854775808) := Lib.hid (by rw [wid16, if_neg (by omega), if_pos (by omega), if_pos (by omega)]; omega)
        obtain ⟨r1, hr1⟩ : ∃ r1, r1 = s * 9223372036854775808 := ⟨_, rfl⟩
        have hr1i : (s : Int) * 9223372036854775808 = (r1 : Int) := by omega
        rw [HW.out, ← hr1]
        clear hr1 HW he hf hs
        subst hf0
        go_enter Tryz.func36, Tryz.ntmps36
        go_wp2_with (first | (go_at_call 56; refine (rIsWidth_calls _ _).mono ?_; rintro o w1 ⟨rfl, rfl⟩) | (go_at_call 57; refine (rsizes_calls _ 10 5 _ (.inl ⟨rfl, rfl, rfl⟩)).mono ?_; rintro o w1 ⟨rfl, rfl⟩))
        go_quiet (fail)
        go_wp2
        go_ret2
        exact ⟨rfl, Qu.mk _ _⟩
      · obtain ⟨j, hj, hj1, hj2, hj3⟩ := log_cases16 hf0 hf10
        have hpow : 2 ^ (10 - j) * 2 ^ j = 1024 := by rw [← Nat.pow_add, show 10 - j + j = 10 from by omega]
        have hpow2 : 2 ^ (52 - j) = 2 ^ (10 - j) * 4398046511104 := by rw [show 52 - j = (10 - j) + 42 from by omega, Nat.pow_add]
        obtain ⟨M, hM⟩ : ∃ M, M = 10 - j := ⟨_, rfl⟩
        obtain ⟨G, hG⟩ : ∃ G, G = f * 2 ^ M := ⟨_, rfl⟩
        have hG1 : 1024 ≤ G := by rw [hG, ← hpow, ← hM, Nat.mul_comm]; exact Nat.mul_le_mul_right _ hj2
        have hG2 : G < 2048 := by
          have h5 := Nat.mul_lt_mul_of_pos_right hj3 (show 0 < 2 ^ M from Nat.pow_pos (by decide))
          rw [Nat.pow_succ, Nat.mul_comm (2 ^ j) 2, Nat.mul_assoc, Nat.mul_comm (2 ^ j), hM, hpow, ← hM, ← hG] at h5
          omega
        obtain ⟨E, hE⟩ : ∃ E, E = 999 + j := ⟨_, rfl⟩
        have HW : Hid (wid16 b = s * 9223372036854775808 + E * 4503599627370496 + (G - 1024) * 4398046511104) := Lib.hid (by
          have h6 : f * 2 ^ (52 - j) = G * 4398046511104 := by rw [hpow2, ← hM, ← Nat.mul_assoc, ← hG]
          rw [wid16, if_neg (by omega), if_pos (by omega), if_neg (by omega), ← hf, hj, h6, ← hs, ← hE]
          omega)
        have HG : Hid (f * 2 ^ M = G) := Lib.hid hG.symm
        obtain ⟨H, hH⟩ : ∃ H, H = G - 1024 := ⟨_, rfl⟩
        have hHi : (G : Int) - 1024 = (H : Int) := by omega
        have hEi : 1 - (M : Int) - 15 + 1023 = (E : Int) := by omega
        obtain ⟨r1, hr1⟩ : ∃ r1, r1 = s * 9223372036854775808 + E * 4503599627370496 := ⟨_, rfl⟩
        obtain ⟨r2, hr2⟩ : ∃ r2, r2 = r1 + H * 4398046511104 := ⟨_, rfl⟩
        have o1 : bits .or .u64 ((s : Int) * 9223372036854775808) ((E : Int) * 4503599627370496) = (r1 : Int) := by
          rw [hr1]; exact or_64 (s * 9223372036854775808) (E * 4503599627370496) 63 (by omega) (by omega) (by omega) _ _ (by omega) (by omega)
        have o2 : bits .or .u64 (r1 : Int) ((H : Int) * 4398046511104) = (r2 : Int) := by
          rw [hr2]; exact or_64 r1 (H * 4398046511104) 52 (by omega) (by omega) (by omega) _ _ rfl (by omega)
        have hE3 : E < 2048 := by omega
        have hM1 : M ≤ 10 := by omega
        have hH3 : H < 1024 := by omega
        have hf0i : ((f : Int) == 0) = false := by simpa using hf0
        have HO1 := Lib.hid o1
        have HO2 := Lib.hid o2
        have HHi := Lib.hid hHi
        have HEi := Lib.hid hEi
        rw [HW.out, ← hH, ← hr1, ← hr2]
        clear hr1 hr2 HW he hf hs hE hH hM hG hpow hpow2 hj hj1 hj2 hj3 o1 o2 hHi hEi hf0
        go_enter Tryz.func36, Tryz.ntmps36
        go_wp2_with (first | (go_at_call 56; refine (rIsWidth_calls _ _).mono ?_; rintro o w1 ⟨rfl, rfl⟩) | (go_at_call 57; refine (rsizes_calls _ 10 5 _ (.inl ⟨rfl, rfl, rfl⟩)).mono ?_; rintro o w1 ⟨rfl, rfl⟩))
        go_quiet (fail)
        go_wp2
        go_loop [9, 10] (fun ev fv => ∃ i g : Nat, i ≤ M ∧ g * 2 ^ (M - i) = G ∧ ev = .int .i64 (1 - (i : Int)) ∧ fv = .int .u64 (g : Int)) (fun ev _ => M - (1 - intOf ev).toNat)
        case atStart => exact ⟨0, f, Nat.zero_le _, HG.out, rfl, rfl⟩
        case round =>
          obtain ⟨i, g, hi, hg, rfl, rfl⟩ := hrel
          have hgl : g ≤ G := by rw [← hg]; exact Nat.le_mul_of_pos_right _ (Nat.pow_pos (by decide))
          by_cases hlt : i < M
          · have hg2 : g * 2 ^ (M - (i + 1)) * 2 = G := by rw [← hg, show M - i = (M - (i + 1)) + 1 from by omega, Nat.pow_succ, Nat.mul_assoc]
            have hg3 : 2 * g ≤ G := by
              rw [← hg2, Nat.mul_comm]
              exact Nat.mul_le_mul_right 2 (Nat.le_mul_of_pos_right _ (Nat.pow_pos (by decide)))
            have HG2 : Hid (2 * g * 2 ^ (M - (i + 1)) = G) := Lib.hid (by rw [← hg2, Nat.mul_assoc 2, Nat.mul_comm 2])
            have hq : ((g : Int) / 1024 == 0) = true := by rw [show (g : Int) / 1024 = 0 from by omega]; rfl
            have hgi : 2 * (g : Int) = ((2 * g : Nat) : Int) := by omega
            clear hg hg2 hgi
            go_wp2
            go_round
            case rel => exact ⟨i + 1, 2 * g, hlt, HG2.out, by go_num, by go_num⟩
            case measure => simp [intOf]; omega
          · obtain rfl : i = M := by omega
            rw [Nat.sub_self, Nat.pow_zero, Nat.mul_one] at hg
            subst hg
            have hq : ((g : Int) / 1024 == 0) = false := by simp; omega
            have o1 := HO1.out
            have o2 := HO2.out
            have hHi := HHi.out
            have hEi := HEi.out
            go_wp2
            go_ret2
            exact ⟨rfl, Qu.mk _ _⟩
    · have h0i : ((e : Int) == 0) = false := by simpa using h0
      obtain ⟨E, hE⟩ : ∃ E, E = e + 1008 := ⟨_, rfl⟩
      have hEi : (e : Int) - 15 + 1023 = (E : Int) := by omega
      have HW : Hid (wid16 b = s * 9223372036854775808 + E * 4503599627370496 + f * 4398046511104) := Lib.hid (by rw [wid16, if_neg (by omega), if_neg (by omega)]; omega)
      obtain ⟨r1, hr1⟩ : ∃ r1, r1 = s * 9223372036854775808 + E * 4503599627370496 := ⟨_, rfl⟩
      obtain ⟨r2, hr2⟩ : ∃ r2, r2 = r1 + f * 4398046511104 := ⟨_, rfl⟩
      have o1 : bits .or .u64 ((s : Int) * 9223372036854775808) ((E : Int) * 4503599627370496) = (r1 : Int) := by
        rw [hr1]; exact or_64 (s * 9223372036854775808) (E * 4503599627370496) 63 (by omega) (by omega) (by omega) _ _ (by omega) (by omega)
      have o2 : bits .or .u64 (r1 : Int) ((f : Int) * 4398046511104) = (r2 : Int) := by
        rw [hr2]; exact or_64 r1 (f * 4398046511104) 52 (by omega) (by omega) (by omega) _ _ rfl (by omega)
      have hE3 : E < 2048 := by omega
      rw [HW.out, ← hr1, ← hr2]
      clear hr1 hr2 HW he hf hs hE
      go_enter Tryz.func36, Tryz.ntmps36
      go_wp2_with (first | (go_at_call 56; refine (rIsWidth_calls _ _).mono ?_; rintro o w1 ⟨rfl, rfl⟩) | (go_at_call 57; refine (rsizes_calls _ 10 5 _ (.inl ⟨rfl, rfl, rfl⟩)).mono ?_; rintro o w1 ⟨rfl, rfl⟩))
      go_quiet (fail)
      go_wp2
      go_ret2
      exact ⟨rfl, Qu.mk _ _⟩

set_option maxRecDepth 100000 in
set_option maxHeartbeats 1000000 in
theorem rWiden32 (b : Nat) (w : World) (hb : b < 4294967296) : Calls Tryz.prog 36 #[.int .u64 (b : Int), .int .i64 32] w fun o w' => o = .returned (.tuple #[.int .u64 (wid32 b : Nat), .int .i64 0]) ∧ Qu w w' := by
  have hz : ((b : Int) / 4294967296 != 0) = false := by rw [show (b : Int) / 4294967296 = 0 from by omega]; rfl
  have a1 : bits .and .u64 ((b : Int) / 8388608) 255 = ((b / 8388608 % 256 : Nat) : Int) := and_64 (b / 8388608) 8 255 (by decide) (by decide) (by omega) _ _ (by omega) rfl
  have a2 : bits .and .u64 (b : Int) 8388607 = ((b % 8388608 : Nat) : Int) := and_64 b 23 8388607 (by decide) (by decide) (by omega) _ _ rfl rfl
  obtain ⟨e, he⟩ : ∃ e, e = b / 8388608 % 256 := ⟨_, rfl⟩
  obtain ⟨f, hf⟩ : ∃ f, f = b % 8388608 := ⟨_, rfl⟩
  obtain ⟨s, hs⟩ : ∃ s, s = b / 2147483648 := ⟨_, rfl⟩
  have hsi : (b : Int) / 2147483648 = (s : Int) := by omega
  rw [← he] at a1
  rw [← hf] at a2
  have he32 : e < 256 := by omega
  have hf10 : f < 8388608 := by omega
  have hs2 : s < 2 := by omega
  by_cases h31 : e = 255
  · have HW : Hid (wid32 b = s * 9223372036854775808 + 9218868437227405312 + f * 536870912) := Lib.hid (by rw [wid32, if_pos (by omega)]; omega)
    obtain ⟨r1, hr1⟩ : ∃ r1, r1 = s * 9223372036854775808 + 9218868437227405312 := ⟨_, rfl⟩
    obtain ⟨r2, hr2⟩ : ∃ r2, r2 = r1 + f * 536870912 := ⟨_, rfl⟩
    have o1 : bits .or .u64 ((s : Int) * 9223372036854775808) 9218868437227405312 = (r1 : Int) := by
      rw [hr1]; exact or_64 (s * 9223372036854775808) 9218868437227405312 63 (by decide) (by omega) (by omega) _ _ (by omega) rfl
    have o2 : bits .or .u64 (r1 : Int) ((f : Int) * 536870912) = (r2 : Int) := by
      rw [hr2]; exact or_64 r1 (f * 536870912) 52 (by omega) (by omega) (by omega) _ _ rfl (by omega)
    rw [HW.out, ← hr1, ← hr2]
    clear hr1 hr2 HW he hf hs
    subst h31
    go_enter Tryz.func36, Tryz.ntmps36
    go_wp2_with (first | (go_at_call 56; refine (rIsWidth_calls _ _).mono ?_; rintro o w1 ⟨rfl, rfl⟩) | (go_at_call 57; refine (rsizes_calls _ 23 8 _ (.inr ⟨rfl, rfl, rfl⟩)).mono ?_; rintro o w1 ⟨rfl, rfl⟩))
    go_quiet (fail)
    go_wp2
    go_ret2
    exact ⟨rfl, Qu.mk _ _⟩
  · have hE1 : ((e : Int) == 255) = false := by simp; omega
    by_cases h0 : e = 0
    · subst h0
      by_cases hf0 : f = 0
      · have HW : Hid (wid32 b = s * 9223372036854775808) := Lib.hid (by rw [wid32, if_neg (by omega), if_pos (by omega), if_pos (by omega)]; omega)
        obtain ⟨r1, hr1⟩ : ∃ r1, r1 = s * 9223372036854775808 := ⟨_, rfl⟩
        have hr1i : (s : Int) * 9223372036854775808 = (r1 : Int) := by omega
        rw [HW.out, ← hr1]
        clear hr1 HW he hf hs
        subst hf0
        go_enter Tryz.func36, Tryz.ntmps36
        go_wp2_with (first | (go_at_call 56; refine (rIsWidth_calls _ _).mono ?_; rintro o w1 ⟨rfl, rfl⟩) | (go_at_call 57; refine (rsizes_calls _ 23 8 _ (.inr ⟨rfl, rfl, rfl⟩)).mono ?_; rintro o w1 ⟨rfl, rfl⟩))
        go_quiet (fail)
        go_wp2
        go_ret2
        exact ⟨rfl, Qu.mk _ _⟩
      · obtain ⟨j, hj, hj1, hj2, hj3⟩ := log_cases32 hf0 hf10
        have hpow : 2 ^ (23 - j) * 2 ^ j = 8388608 := by rw [← Nat.pow_add, show 23 - j + j = 23 from by omega]
        have hpow2 : 2 ^ (52 - j) = 2 ^ (23 - j) * 536870912 := by rw [show 52 - j = (23 - j) + 29 from by omega, Nat.pow_add]
        obtain ⟨M, hM⟩ : ∃ M, M = 23 - j := ⟨_, rfl⟩
        obtain ⟨G, hG⟩ : ∃ G, G = f * 2 ^ M := ⟨_, rfl⟩
        have hG1 : 8388608 ≤ G := by rw [hG, ← hpow, ← hM, Nat.mul_comm]; exact Nat.mul_le_mul_right _ hj2
        have hG2 : G < 16777216 := by
          have h5 := Nat.mul_lt_mul_of_pos_right hj3 (show 0 < 2 ^ M from Nat.pow_pos (by decide))
          rw [Nat.pow_succ, Nat.mul_comm (2 ^ j) 2, Nat.mul_assoc, Nat.mul_comm (2 ^ j), hM, hpow, ← hM, ← hG] at h5
          omega
        obtain ⟨E, hE⟩ : ∃ E, E = 874 + j := ⟨_, rfl⟩
        have HW : Hid (wid32 b = s * 9223372036854775808 + E * 4503599627370496 + (G - 8388608) * 536870912) := Lib.hid (by
          have h6 : f * 2 ^ (52 - j) = G * 536870912 := by rw [hpow2, ← hM, ← Nat.mul_assoc, ← hG]
          rw [wid32, if_neg (by omega), if_pos (by omega), if_neg (by omega), ← hf, hj, h6, ← hs, ← hE]
          omega)
        have HG : Hid (f * 2 ^ M = G) := Lib.hid hG.symm
        obtain ⟨H, hH⟩ : ∃ H, H = G - 8388608 := ⟨_, rfl⟩
        have hHi : (G : Int) - 8388608 = (H : Int) := by omega
        have hEi : 1 - (M : Int) - 127 + 1023 = (E : Int) := by omega
        obtain ⟨r1, hr1⟩ : ∃ r1, r1 = s * 9223372036854775808 + E * 4503599627370496 := ⟨_, rfl⟩
        obtain ⟨r2, hr2⟩ : ∃ r2, r2 = r1 + H * 536870912 := ⟨_, rfl⟩
        have o1 : bits .or .u64 ((s : Int) * 9223372036854775808) ((E : Int) * 4503599627370496) = (r1 : Int) := by
          rw [hr1]; exact or_64 (s * 9223372036854775808) (E * 4503599627370496) 63 (by omega) (by omega) (by omega) _ _ (by omega) (by omega)
        have o2 : bits .or .u64 (r1 : Int) ((H : Int) * 536870912) = (r2 : Int) := by
          rw [hr2]; exact or_64 r1 (H * 536870912) 52 (by omega) (by omega) (by omega) _ _ rfl (by omega)
        have hE3 : E < 2048 := by omega
        have hM1 : M ≤ 23 := by omega
        have hH3 : H < 8388608 := by omega
        have hf0i : ((f : Int) == 0) = false := by simpa using hf0
        have HO1 := Lib.hid o1
        have HO2 := Lib.hid o2
        have HHi := Lib.hid hHi
        have HEi := Lib.hid hEi
        rw [HW.out, ← hH, ← hr1, ← hr2]
        clear hr1 hr2 HW he hf hs hE hH hM hG hpow hpow2 hj hj1 hj2 hj3 o1 o2 hHi hEi hf0
        go_enter Tryz.func36, Tryz.ntmps36
        go_wp2_with (first | (go_at_call 56; refine (rIsWidth_calls _ _).mono ?_; rintro o w1 ⟨rfl, rfl⟩) | (go_at_call 57; refine (rsizes_calls _ 23 8 _ (.inr ⟨rfl, rfl, rfl⟩)).mono ?_; rintro o w1 ⟨rfl, rfl⟩))
        go_quiet (fail)
        go_wp2
        go_loop [9, 10] (fun ev fv => ∃ i g : Nat, i ≤ M ∧ g * 2 ^ (M - i) = G ∧ ev = .int .i64 (1 - (i : Int)) ∧ fv = .int .u64 (g : Int)) (fun ev _ => M - (1 - intOf ev).toNat)
        case atStart => exact ⟨0, f, Nat.zero_le _, HG.out, rfl, rfl⟩
        case round =>
          obtain ⟨i, g, hi, hg, rfl, rfl⟩ := hrel
          have hgl : g ≤ G := by rw [← hg]; exact Nat.le_mul_of_pos_right _ (Nat.pow_pos (by decide))
          by_cases hlt : i < M
          · have hg2 : g * 2 ^ (M - (i + 1)) * 2 = G := by rw [← hg, show M - i = (M - (i + 1)) + 1 from by omega, Nat.pow_succ, Nat.mul_assoc]
            have hg3 : 2 * g ≤ G := by
              rw [← hg2, Nat.mul_comm]
              exact Nat.mul_le_mul_right 2 (Nat.le_mul_of_pos_right _ (Nat.pow_pos (by decide)))
            have HG2 : Hid (2 * g * 2 ^ (M - (i + 1)) = G) := Lib.hid (by rw [← hg2, Nat.mul_assoc 2, Nat.mul_comm 2])
            have hq : ((g : Int) / 8388608 == 0) = true := by rw [show (g : Int) / 8388608 = 0 from by omega]; rfl
            have hgi : 2 * (g : Int) = ((2 * g : Nat) : Int) := by omega
            clear hg hg2 hgi
            go_wp2
            go_round
            case rel => exact ⟨i + 1, 2 * g, hlt, HG2.out, by go_num, by go_num⟩
            case measure => simp [intOf]; omega
          · obtain rfl : i = M := by omega
            rw [Nat.sub_self, Nat.pow_zero, Nat.mul_one] at hg
            subst hg
            have hq : ((g : Int) / 8388608 == 0) = false := by simp; omega
            have o1 := HO1.out
            have o2 := HO2.out
            have hHi := HHi.out
            have hEi := HEi.out
            go_wp2
            go_ret2
            exact ⟨rfl, Qu.mk _ _⟩
    · have h0i : ((e : Int) == 0) = false := by simpa using h0
      obtain ⟨E, hE⟩ : ∃ E, E = e + 896 := ⟨_, rfl⟩
      have hEi : (e : Int) - 127 + 1023 = (E : Int) := by omega
      have HW : Hid (wid32 b = s * 9223372036854775808 + E * 4503599627370496 + f * 536870912) := Lib.hid (by rw [wid32, if_neg (by omega), if_neg (by omega)]; omega)
      obtain ⟨r1, hr1⟩ : ∃ r1, r1 = s * 9223372036854775808 + E * 4503599627370496 := ⟨_, rfl⟩
      obtain ⟨r2, hr2⟩ : ∃ r2, r2 = r1 + f * 536870912 := ⟨_, rfl⟩
      have o1 : bits .or .u64 ((s : Int) * 9223372036854775808) ((E : Int) * 4503599627370496) = (r1 : Int) := by
        rw [hr1]; exact or_64 (s * 9223372036854775808) (E * 4503599627370496) 63 (by omega) (by omega) (by omega) _ _ (by omega) (by omega)
      have o2 : bits .or .u64 (r1 : Int) ((f : Int) * 536870912) = (r2 : Int) := by
        rw [hr2]; exact or_64 r1 (f * 536870912) 52 (by omega) (by omega) (by omega) _ _ rfl (by omega)
      have hE3 : E < 2048 := by omega
      rw [HW.out, ← hr1, ← hr2]
      clear hr1 hr2 HW he hf hs hE
      go_enter Tryz.func36, Tryz.ntmps36
      go_wp2_with (first | (go_at_call 56; refine (rIsWidth_calls _ _).mono ?_; rintro o w1 ⟨rfl, rfl⟩) | (go_at_call 57; refine (rsizes_calls _ 23 8 _ (.inr ⟨rfl, rfl, rfl⟩)).mono ?_; rintro o w1 ⟨rfl, rfl⟩))
      go_quiet (fail)
      go_wp2
      go_ret2
      exact ⟨rfl, Qu.mk _ _⟩


/-- What a call that widens tells. -/
def WidP (r : Option Nat) (w : World) (o : Ending) (w' : World) : Prop := o = .returned (.tuple #[.int .u64 (r.getD 0 : Nat), .int .i64 (if r.isSome = true then 0 else 2)]) ∧ Qu w w'
set_option maxRecDepth 100000 in
set_option maxHeartbeats 1000000 in
theorem rWiden_no (b : Nat) (x : Int) (w : World) (hx : isW x = false) : Calls Tryz.prog 36 #[.int .u64 (b : Int), .int .i64 x] w fun o w' => o = .returned (.tuple #[.int .u64 0, .int .i64 2]) ∧ Qu w w' := by
  have HX := Lib.hid (fun w => (rIsWidth_calls x w).mono fun o w' (h : _ ∧ _) => (show o = .returned (.bool false) ∧ w = w' from ⟨by rw [h.1, hx], h.2⟩))
  clear hx
  go_enter Tryz.func36, Tryz.ntmps36
  go_wp2_with (go_at_call 56; refine (HX.out _).mono ?_; rintro o w1 ⟨rfl, rfl⟩)
  go_ret2
  exact ⟨rfl, Qu.refl _⟩
set_option maxRecDepth 100000 in
set_option maxHeartbeats 1000000 in
theorem rWiden_64 (b : Nat) (w : World) : Calls Tryz.prog 36 #[.int .u64 (b : Int), .int .i64 64] w fun o w' => o = .returned (.tuple #[.int .u64 (b : Int), .int .i64 0]) ∧ Qu w w' := by
  go_enter Tryz.func36, Tryz.ntmps36
  go_wp2_with (go_at_call 56; refine (rIsWidth_calls _ _).mono ?_; rintro o w1 ⟨rfl, rfl⟩)
  go_ret2
  exact ⟨rfl, Qu.refl _⟩
set_option maxRecDepth 100000 in
set_option maxHeartbeats 1000000 in
theorem rWiden_much (b : Nat) (x : Int) (w : World) (h : (x = 16 ∧ 65536 ≤ b) ∨ (x = 32 ∧ 4294967296 ≤ b)) : Calls Tryz.prog 36 #[.int .u64 (b : Int), .int .i64 x] w fun o w' => o = .returned (.tuple #[.int .u64 0, .int .i64 2]) ∧ Qu w w' := by
  rcases h with ⟨rfl, h⟩ | ⟨rfl, h⟩
  · have hz : ((b : Int) / 65536 != 0) = true := by simp; omega
    go_enter Tryz.func36, Tryz.ntmps36
    go_wp2_with (go_at_call 56; refine (rIsWidth_calls _ _).mono ?_; rintro o w1 ⟨rfl, rfl⟩)
    go_ret2
    exact ⟨rfl, Qu.refl _⟩
  · have hz : ((b : Int) / 4294967296 != 0) = true := by simp; omega
    go_enter Tryz.func36, Tryz.ntmps36
    go_wp2_with (go_at_call 56; refine (rIsWidth_calls _ _).mono ?_; rintro o w1 ⟨rfl, rfl⟩)
    go_ret2
    exact ⟨rfl, Qu.refl _⟩
theorem rWiden_calls (b : Nat) (x : Int) (w : World) : Calls Tryz.prog 36 #[.int .u64 (b : Int), .int .i64 x] w (WidP (widO b x) w) := by
  by_cases h16 : x = 16
  · subst h16
    by_cases hb : b < 65536
    · refine (rWiden16 b w hb).mono ?_
      rintro o w' ⟨rfl, hw⟩
      exact ⟨by rw [widO, if_pos rfl, if_pos hb]; rfl, hw⟩
    · refine (rWiden_much b 16 w (.inl ⟨rfl, by omega⟩)).mono ?_
      rintro o w' ⟨rfl, hw⟩
      exact ⟨by rw [widO, if_pos rfl, if_neg hb]; rfl, hw⟩
  · by_cases h32 : x = 32
    · subst h32
      by_cases hb : b < 4294967296
      · refine (rWiden32 b w hb).mono ?_
        rintro o w' ⟨rfl, hw⟩
        exact ⟨by rw [widO, if_neg h16, if_pos rfl, if_pos hb]; rfl, hw⟩
      · refine (rWiden_much b 32 w (.inr ⟨rfl, by omega⟩)).mono ?_
        rintro o w' ⟨rfl, hw⟩
        exact ⟨by rw [widO, if_neg h16, if_pos rfl, if_neg hb]; rfl, hw⟩
    · by_cases h64 : x = 64
      · subst h64
        refine (rWiden_64 b w).mono ?_
        rintro o w' ⟨rfl, hw⟩
        exact ⟨by rw [widO, if_neg h16, if_neg h32, if_pos rfl]; rfl, hw⟩
      · refine (rWiden_no b x w (by simp [isW, h16, h32, h64])).mono ?_
        rintro o w' ⟨rfl, hw⟩
        exact ⟨by rw [widO, if_neg h16, if_neg h32, if_neg h64]; rfl, hw⟩
/-- What a call that narrows tells. -/
def NarP (r : Option Nat) (w : World) (o : Ending) (w' : World) : Prop := o = .returned (.tuple #[.int .u64 (r.getD 0 : Nat), .bool r.isSome]) ∧ Qu w w'

theorem nar_all16 {a : Nat} (ha : a < 18446744073709551616) : nar16 a < 65536 := by
  by_cases h : a < 9223372036854775808
  · have := (nar_flip16 h).2; omega
  · obtain ⟨h1, h2⟩ := nar_flip16 (a := a - 9223372036854775808) (by omega)
    rw [show a - 9223372036854775808 + 9223372036854775808 = a from by omega] at h1
    omega
set_option maxRecDepth 100000 in
set_option maxHeartbeats 2000000 in
theorem rNarrow16 (a : Nat) (w : World) (ha : a < 18446744073709551616) : Calls Tryz.prog 58 #[.int .u64 (a : Int), .int .i64 16] w (NarP (narO a 16) w) := by
  obtain ⟨N, hN⟩ : ∃ N, N = nar16 a := ⟨_, rfl⟩
  have hNl : N < 65536 := by rw [hN]; exact nar_all16 ha
  obtain ⟨V, hV⟩ : ∃ V, V = wid16 N := ⟨_, rfl⟩
  have HWd : Hid (∀ W, Calls Tryz.prog 36 #[.int .u64 (N : Int), .int .i64 16] W fun o w' => o = .returned (.tuple #[.int .u64 (V : Int), .int .i64 0]) ∧ Qu W w') := Lib.hid (fun W => by rw [hV]; exact rWiden16 N W hNl)
  have HR : Hid (narO a 16 = if V = a then some N else none) := Lib.hid (by rw [hV, hN]; rw [narO, if_pos rfl])
  have a1 : bits .and .u64 ((a : Int) / 4503599627370496) 2047 = ((a / 4503599627370496 % 2048 : Nat) : Int) := and_64 (a / 4503599627370496) 11 2047 (by decide) (by decide) (by omega) _ _ (by omega) rfl
  have a2 : bits .and .u64 (a : Int) 4503599627370495 = ((a % 4503599627370496 : Nat) : Int) := and_64 a 52 4503599627370495 (by decide) (by decide) ha _ _ rfl rfl
  obtain ⟨e, he⟩ : ∃ e, e = a / 4503599627370496 % 2048 := ⟨_, rfl⟩
  obtain ⟨f, hf⟩ : ∃ f, f = a % 4503599627370496 := ⟨_, rfl⟩
  obtain ⟨s, hs⟩ : ∃ s, s = a / 9223372036854775808 := ⟨_, rfl⟩
  have hsi : (a : Int) / 9223372036854775808 = (s : Int) := by omega
  rw [← he] at a1
  rw [← hf] at a2
  have he32 : e < 2048 := by omega
  have hf10 : f < 4503599627370496 := by omega
  have hs2 : s < 2 := by omega
  rw [HR.out]
  rw [nar16, ← he, ← hf, ← hs] at hN
  clear hV HR he hf hs
  by_cases h31 : e = 2047
  · subst h31
    rw [if_pos rfl] at hN
    obtain ⟨r1, hr1⟩ : ∃ r1, r1 = s * 32768 + 31744 := ⟨_, rfl⟩
    have o1 : bits .or .u64 ((s : Int) * 32768) 31744 = (r1 : Int) := by
      rw [hr1]; exact or_64 (s * 32768) 31744 15 (by decide) (by omega) (by omega) _ _ (by omega) rfl
    have o2 : bits .or .u64 (r1 : Int) ((f : Int) / 4398046511104) = (N : Int) := by
      rw [show N = r1 + f / 4398046511104 from by omega]; exact or_64 r1 (f / 4398046511104) 10 (by omega) (by omega) (by omega) _ _ rfl (by omega)
    clear hr1 hN hNl
    by_cases hV : V = a
    · have hVi : ((V : Int) != (a : Int)) = false := by rw [hV]; simp
      have HF : Hid ((if V = a then some N else none) = some N) := Lib.hid (if_pos hV)
      rw [HF.out]
      clear hV
      go_enter Tryz.func58, Tryz.ntmps58
      go_wp2_with (first | (go_at_call 56; refine (rIsWidth_calls _ _).mono ?_; rintro o w1 ⟨rfl, rfl⟩) | (go_at_call 57; refine (rsizes_calls _ 10 5 _ (.inl ⟨rfl, rfl, rfl⟩)).mono ?_; rintro o w1 ⟨rfl, rfl⟩))
      go_quiet (fail)
      go_wp2_with (go_at_call 36; refine (HWd.out _).mono ?_; rintro o w2 ⟨rfl, hb2⟩)
      go_ret2
      exact ⟨rfl, (Qu.mk _ _).trans hb2⟩
    · have hVi : ((V : Int) != (a : Int)) = true := by simp; omega
      have HF : Hid ((if V = a then some N else none) = none) := Lib.hid (if_neg hV)
      rw [HF.out]
      clear hV
      go_enter Tryz.func58, Tryz.ntmps58
      go_wp2_with (first | (go_at_call 56; refine (rIsWidth_calls _ _).mono ?_; rintro o w1 ⟨rfl, rfl⟩) | (go_at_call 57; refine (rsizes_calls _ 10 5 _ (.inl ⟨rfl, rfl, rfl⟩)).mono ?_; rintro o w1 ⟨rfl, rfl⟩))
      go_quiet (fail)
      go_wp2_with (go_at_call 36; refine (HWd.out _).mono ?_; rintro o w2 ⟨rfl, hb2⟩)
      go_ret2
      exact ⟨rfl, (Qu.mk _ _).trans hb2⟩
  · have h31i : ((e : Int) == 2047) = false := by simp; omega
    rw [if_neg h31] at hN
    by_cases hn : 1008 < e ∧ e < 1039
    · rw [if_pos hn] at hN
      obtain ⟨Y, hY⟩ : ∃ Y, Y = e - 1008 := ⟨_, rfl⟩
      have hYi : (e : Int) - 1023 + 15 = (Y : Int) := by omega
      have hY1 : (0 : Int) < (Y : Int) := by omega
      have hY2 : (Y : Int) < 31 := by omega
      obtain ⟨r1, hr1⟩ : ∃ r1, r1 = s * 32768 + Y * 1024 := ⟨_, rfl⟩
      have o1 : bits .or .u64 ((s : Int) * 32768) ((Y : Int) * 1024) = (r1 : Int) := by
        rw [hr1]; exact or_64 (s * 32768) (Y * 1024) 15 (by omega) (by omega) (by omega) _ _ (by omega) (by omega)
      have o2 : bits .or .u64 (r1 : Int) ((f : Int) / 4398046511104) = (N : Int) := by
        rw [show N = r1 + f / 4398046511104 from by omega]; exact or_64 r1 (f / 4398046511104) 10 (by omega) (by omega) (by omega) _ _ rfl (by omega)
      have hY3 : Y < 32 := by omega
      clear hr1 hN hNl hn hY h31
      by_cases hV : V = a
      · have hVi : ((V : Int) != (a : Int)) = false := by rw [hV]; simp
        have HF : Hid ((if V = a then some N else none) = some N) := Lib.hid (if_pos hV)
        rw [HF.out]
        clear hV
        go_enter Tryz.func58, Tryz.ntmps58
        go_wp2_with (first | (go_at_call 56; refine (rIsWidth_calls _ _).mono ?_; rintro o w1 ⟨rfl, rfl⟩) | (go_at_call 57; refine (rsizes_calls _ 10 5 _ (.inl ⟨rfl, rfl, rfl⟩)).mono ?_; rintro o w1 ⟨rfl, rfl⟩))
        go_quiet (fail)
        go_wp2_with (go_at_call 36; refine (HWd.out _).mono ?_; rintro o w2 ⟨rfl, hb2⟩)
        go_ret2
        exact ⟨rfl, (Qu.mk _ _).trans hb2⟩
      · have hVi : ((V : Int) != (a : Int)) = true := by simp; omega
        have HF : Hid ((if V = a then some N else none) = none) := Lib.hid (if_neg hV)
        rw [HF.out]
        clear hV
        go_enter Tryz.func58, Tryz.ntmps58
        go_wp2_with (first | (go_at_call 56; refine (rIsWidth_calls _ _).mono ?_; rintro o w1 ⟨rfl, rfl⟩) | (go_at_call 57; refine (rsizes_calls _ 10 5 _ (.inl ⟨rfl, rfl, rfl⟩)).mono ?_; rintro o w1 ⟨rfl, rfl⟩))
        go_quiet (fail)
        go_wp2_with (go_at_call 36; refine (HWd.out _).mono ?_; rintro o w2 ⟨rfl, hb2⟩)
        go_ret2
        exact ⟨rfl, (Qu.mk _ _).trans hb2⟩
    · rw [if_neg hn] at hN
      obtain ⟨Y, hY⟩ : ∃ Y : Int, Y = (e : Int) - 1023 + 15 := ⟨_, rfl⟩
      have hYi : (e : Int) - 1023 + 15 = Y := hY.symm
      by_cases hsb : 998 < e ∧ e ≤ 1008
      · rw [if_pos hsb] at hN
        have hY1 : ¬ (0 : Int) < Y := by omega
        have hY2 : (-10 : Int) < Y := by omega
        have hY3 : Y ≤ 0 := by omega
        have he0 : (0 : Int) < (e : Int) := by omega
        obtain ⟨t, ht⟩ : ∃ t, t = 1051 - e := ⟨_, rfl⟩
        have hti : 43 - Y = (t : Int) := by omega
        have htl : t < 64 := by omega
        have htg : 43 ≤ t := by omega
        obtain ⟨g, hg⟩ : ∃ g, g = 4503599627370496 + f := ⟨_, rfl⟩
        have hgi : 4503599627370496 + (f : Int) = (g : Int) := by omega
        have o1 : bits .or .u64 4503599627370496 (f : Int) = (g : Int) := by
          rw [hg]; exact or_64 4503599627370496 f 52 (by omega) (by decide) (by omega) _ _ rfl rfl
        have hgq : g / 2 ^ t < 1024 := by
          have h6 : 2 ^ 43 ≤ 2 ^ t := Nat.pow_le_pow_right (by decide) htg
          have h7 : g / 2 ^ t ≤ g / 2 ^ 43 := Nat.div_le_div_left h6 (by decide)
          have h8 : g / 2 ^ 43 < 1024 := by
            rw [show (2 : Nat) ^ 43 = 8796093022208 from by decide]
            omega
          omega
        have o2 : bits .or .u64 ((s : Int) * 32768) ((g : Int) / 2 ^ t) = (N : Int) := by
          rw [hN, ← ht, ← hg]; exact or_64 (s * 32768) (g / 2 ^ t) 10 hgq (by omega) (by omega) _ _ (by omega) (by push_cast; rfl)
        clear hY h31 hn hsb hNl hN hg ht hgq htg
        by_cases hV : V = a
        · have hVi : ((V : Int) != (a : Int)) = false := by rw [hV]; simp
          have HF : Hid ((if V = a then some N else none) = some N) := Lib.hid (if_pos hV)
          rw [HF.out]
          clear hV
          go_enter Tryz.func58, Tryz.ntmps58
          go_wp2_with (first | (go_at_call 56; refine (rIsWidth_calls _ _).mono ?_; rintro o w1 ⟨rfl, rfl⟩) | (go_at_call 57; refine (rsizes_calls _ 10 5 _ (.inl ⟨rfl, rfl, rfl⟩)).mono ?_; rintro o w1 ⟨rfl, rfl⟩) | (go_at_call 36; refine (HWd.out _).mono ?_; rintro o w2 ⟨rfl, hb2⟩))
          go_ret2
          exact ⟨rfl, hb2⟩
        · have hVi : ((V : Int) != (a : Int)) = true := by simp; omega
          have HF : Hid ((if V = a then some N else none) = none) := Lib.hid (if_neg hV)
          rw [HF.out]
          clear hV
          go_enter Tryz.func58, Tryz.ntmps58
          go_wp2_with (first | (go_at_call 56; refine (rIsWidth_calls _ _).mono ?_; rintro o w1 ⟨rfl, rfl⟩) | (go_at_call 57; refine (rsizes_calls _ 10 5 _ (.inl ⟨rfl, rfl, rfl⟩)).mono ?_; rintro o w1 ⟨rfl, rfl⟩) | (go_at_call 36; refine (HWd.out _).mono ?_; rintro o w2 ⟨rfl, hb2⟩))
          go_ret2
          exact ⟨rfl, hb2⟩
      · rw [if_neg hsb] at hN
        have hsN : (s : Int) * 32768 = (N : Int) := by omega
        have hcs : e = 0 ∨ (0 < e ∧ Y ≤ -10) ∨ (0 < e ∧ 31 ≤ Y) := by omega
        clear hn hsb hNl hN h31
        rcases hcs with rfl | ⟨h1, h2⟩ | ⟨h1, h2⟩
        · have hYv : Y = -1008 := by omega
          subst hYv
          clear hY
          by_cases hV : V = a
          · have hVi : ((V : Int) != (a : Int)) = false := by rw [hV]; simp
            have HF : Hid ((if V = a then some N else none) = some N) := Lib.hid (if_pos hV)
            rw [HF.out]
            clear hV
            go_enter Tryz.func58, Tryz.ntmps58
            go_wp2_with (first | (go_at_call 56; refine (rIsWidth_calls _ _).mono ?_; rintro o w1 ⟨rfl, rfl⟩) | (go_at_call 57; refine (rsizes_calls _ 10 5 _ (.inl ⟨rfl, rfl, rfl⟩)).mono ?_; rintro o w1 ⟨rfl, rfl⟩) | (go_at_call 36; refine (HWd.out _).mono ?_; rintro o w2 ⟨rfl, hb2⟩))
            go_ret2
            exact ⟨rfl, hb2⟩
          · have hVi : ((V : Int) != (a : Int)) = true := by simp; omega
            have HF : Hid ((if V = a then some N else none) = none) := Lib.hid (if_neg hV)
            rw [HF.out]
            clear hV
            go_enter Tryz.func58, Tryz.ntmps58
            go_wp2_with (first | (go_at_call 56; refine (rIsWidth_calls _ _).mono ?_; rintro o w1 ⟨rfl, rfl⟩) | (go_at_call 57; refine (rsizes_calls _ 10 5 _ (.inl ⟨rfl, rfl, rfl⟩)).mono ?_; rintro o w1 ⟨rfl, rfl⟩) | (go_at_call 36; refine (HWd.out _).mono ?_; rintro o w2 ⟨rfl, hb2⟩))
            go_ret2
            exact ⟨rfl, hb2⟩
        · have h1i : (0 : Int) < (e : Int) := by omega
          have hY1 : ¬ (0 : Int) < Y := by omega
          have hY2 : ¬ (-10 : Int) < Y := by omega
          clear hY
          by_cases hV : V = a
          · have hVi : ((V : Int) != (a : Int)) = false := by rw [hV]; simp
            have HF : Hid ((if V = a then some N else none) = some N) := Lib.hid (if_pos hV)
            rw [HF.out]
            clear hV
            go_enter Tryz.func58, Tryz.ntmps58
            go_wp2_with (first | (go_at_call 56; refine (rIsWidth_calls _ _).mono ?_; rintro o w1 ⟨rfl, rfl⟩) | (go_at_call 57; refine (rsizes_calls _ 10 5 _ (.inl ⟨rfl, rfl, rfl⟩)).mono ?_; rintro o w1 ⟨rfl, rfl⟩) | (go_at_call 36; refine (HWd.out _).mono ?_; rintro o w2 ⟨rfl, hb2⟩))
            go_ret2
            exact ⟨rfl, hb2⟩
          · have hVi : ((V : Int) != (a : Int)) = true := by simp; omega
            have HF : Hid ((if V = a then some N else none) = none) := Lib.hid (if_neg hV)
            rw [HF.out]
            clear hV
            go_enter Tryz.func58, Tryz.ntmps58
            go_wp2_with (first | (go_at_call 56; refine (rIsWidth_calls _ _).mono ?_; rintro o w1 ⟨rfl, rfl⟩) | (go_at_call 57; refine (rsizes_calls _ 10 5 _ (.inl ⟨rfl, rfl, rfl⟩)).mono ?_; rintro o w1 ⟨rfl, rfl⟩) | (go_at_call 36; refine (HWd.out _).mono ?_; rintro o w2 ⟨rfl, hb2⟩))
            go_ret2
            exact ⟨rfl, hb2⟩
        · have h1i : (0 : Int) < (e : Int) := by omega
          have hY1 : (0 : Int) < Y := by omega
          have hY2 : ¬ Y < (31 : Int) := by omega
          have hY3 : (-10 : Int) < Y := by omega
          have hY4 : ¬ Y ≤ 0 := by omega
          clear hY
          by_cases hV : V = a
          · have hVi : ((V : Int) != (a : Int)) = false := by rw [hV]; simp
            have HF : Hid ((if V = a then some N else none) = some N) := Lib.hid (if_pos hV)
            rw [HF.out]
            clear hV
            go_enter Tryz.func58, Tryz.ntmps58
            go_wp2_with (first | (go_at_call 56; refine (rIsWidth_calls _ _).mono ?_; rintro o w1 ⟨rfl, rfl⟩) | (go_at_call 57; refine (rsizes_calls _ 10 5 _ (.inl ⟨rfl, rfl, rfl⟩)).mono ?_; rintro o w1 ⟨rfl, rfl⟩) | (go_at_call 36; refine (HWd.out _).mono ?_; rintro o w2 ⟨rfl, hb2⟩))
            go_ret2
            exact ⟨rfl, hb2⟩
          · have hVi : ((V : Int) != (a : Int)) = true := by simp; omega
            have HF : Hid ((if V = a then some N else none) = none) := Lib.hid (if_neg hV)
            rw [HF.out]
            clear hV
            go_enter Tryz.func58, Tryz.ntmps58
            go_wp2_with (first | (go_at_call 56; refine (rIsWidth_calls _ _).mono ?_; rintro o w1 ⟨rfl, rfl⟩) | (go_at_call 57; refine (rsizes_calls _ 10 5 _ (.inl ⟨rfl, rfl, rfl⟩)).mono ?_; rintro o w1 ⟨rfl, rfl⟩) | (go_at_call 36; refine (HWd.out _).mono ?_; rintro o w2 ⟨rfl, hb2⟩))
            go_ret2
            exact ⟨rfl, hb2⟩

theorem nar_all32 {a : Nat} (ha : a < 18446744073709551616) : nar32 a < 4294967296 := by
  by_cases h : a < 9223372036854775808
  · have := (nar_flip32 h).2; omega
  · obtain ⟨h1, h2⟩ := nar_flip32 (a := a - 9223372036854775808) (by omega)
    rw [show a - 9223372036854775808 + 9223372036854775808 = a from by omega] at h1
    omega
set_option maxRecDepth 100000 in
set_option maxHeartbeats 2000000 in
theorem rNarrow32 (a : Nat) (w : World) (ha : a < 18446744073709551616) : Calls Tryz.prog 58 #[.int .u64 (a : Int), .int .i64 32] w (NarP (narO a 32) w) := by
  obtain ⟨N, hN⟩ : ∃ N, N = nar32 a := ⟨_, rfl⟩
  have hNl : N < 4294967296 := by rw [hN]; exact nar_all32 ha
  obtain ⟨V, hV⟩ : ∃ V, V = wid32 N := ⟨_, rfl⟩
  have HWd : Hid (∀ W, Calls Tryz.prog 36 #[.int .u64 (N : Int), .int .i64 32] W fun o w' => o = .returned (.tuple #[.int .u64 (V : Int), .int .i64 0]) ∧ Qu W w') := Lib.hid (fun W => by rw [hV]; exact rWiden32 N W hNl)
  have HR : Hid (narO a 32 = if V = a then some N else none) := Lib.hid (by rw [hV, hN]; rw [narO, if_neg (by decide), if_pos rfl])
  have a1 : bits .and .u64 ((a : Int) / 4503599627370496) 2047 = ((a / 4503599627370496 % 2048 : Nat) : Int) := and_64 (a / 4503599627370496) 11 2047 (by decide) (by decide) (by omega) _ _ (by omega) rfl
  have a2 : bits .and .u64 (a : Int) 4503599627370495 = ((a % 4503599627370496 : Nat) : Int) := and_64 a 52 4503599627370495 (by decide) (by decide) ha _ _ rfl rfl
  obtain ⟨e, he⟩ : ∃ e, e = a / 4503599627370496 % 2048 := ⟨_, rfl⟩
  obtain ⟨f, hf⟩ : ∃ f, f = a % 4503599627370496 := ⟨_, rfl⟩
  obtain ⟨s, hs⟩ : ∃ s, s = a / 9223372036854775808 := ⟨_, rfl⟩
  have hsi : (a : Int) / 9223372036854775808 = (s : Int) := by omega
  rw [← he] at a1
  rw [← hf] at a2
  have he32 : e < 2048 := by omega
  have hf10 : f < 4503599627370496 := by omega
  have hs2 : s < 2 := by omega
  rw [HR.out]
  rw [nar32, ← he, ← hf, ← hs] at hN
  clear hV HR he hf hs
  by_cases h31 : e = 2047
  · subst h31
    rw [if_pos rfl] at hN
    obtain ⟨r1, hr1⟩ : ∃ r1, r1 = s * 2147483648 + 2139095040 := ⟨_, rfl⟩
    have o1 : bits .or .u64 ((s : Int) * 2147483648) 2139095040 = (r1 : Int) := by
      rw [hr1]; exact or_64 (s * 2147483648) 2139095040 31 (by decide) (by omega) (by omega) _ _ (by omega) rfl
    have o2 : bits .or .u64 (r1 : Int) ((f : Int) / 536870912) = (N : Int) := by
      rw [show N = r1 + f / 536870912 from by omega]; exact or_64 r1 (f / 536870912) 23 (by omega) (by omega) (by omega) _ _ rfl (by omega)
    clear hr1 hN hNl
    by_cases hV : V = a
    · have hVi : ((V : Int) != (a : Int)) = false := by rw [hV]; simp
      have HF : Hid ((if V = a then some N else none) = some N) := Lib.hid (if_pos hV)
      rw [HF.out]
      clear hV
      go_enter Tryz.func58, Tryz.ntmps58
      go_wp2_with (first | (go_at_call 56; refine (rIsWidth_calls _ _).mono ?_; rintro o w1 ⟨rfl, rfl⟩) | (go_at_call 57; refine (rsizes_calls _ 23 8 _ (.inr ⟨rfl, rfl, rfl⟩)).mono ?_; rintro o w1 ⟨rfl, rfl⟩))
      go_quiet (fail)
      go_wp2_with (go_at_call 36; refine (HWd.out _).mono ?_; rintro o w2 ⟨rfl, hb2⟩)
      go_ret2
      exact ⟨rfl, (Qu.mk _ _).trans hb2⟩
    · have hVi : ((V : Int) != (a : Int)) = true := by simp; omega
      have HF : Hid ((if V = a then some N else none) = none) := Lib.hid (if_neg hV)
      rw [HF.out]
      clear hV
      go_enter Tryz.func58, Tryz.ntmps58
      go_wp2_with (first | (go_at_call 56; refine (rIsWidth_calls _ _).mono ?_; rintro o w1 ⟨rfl, rfl⟩) | (go_at_call 57; refine (rsizes_calls _ 23 8 _ (.inr ⟨rfl, rfl, rfl⟩)).mono ?_; rintro o w1 ⟨rfl, rfl⟩))
      go_quiet (fail)
      go_wp2_with (go_at_call 36; refine (HWd.out _).mono ?_; rintro o w2 ⟨rfl, hb2⟩)
      go_ret2
      exact ⟨rfl, (Qu.mk _ _).trans hb2⟩
  · have h31i : ((e : Int) == 2047) = false := by simp; omega
    rw [if_neg h31] at hN
    by_cases hn : 896 < e ∧ e < 1151
    · rw [if_pos hn] at hN
      obtain ⟨Y, hY⟩ : ∃ Y, Y = e - 896 := ⟨_, rfl⟩
      have hYi : (e : Int) - 1023 + 127 = (Y : Int) := by omega
      have hY1 : (0 : Int) < (Y : Int) := by omega
      have hY2 : (Y : Int) < 255 := by omega
      obtain ⟨r1, hr1⟩ : ∃ r1, r1 = s * 2147483648 + Y * 8388608 := ⟨_, rfl⟩
      have o1 : bits .or .u64 ((s : Int) * 2147483648) ((Y : Int) * 8388608) = (r1 : Int) := by
        rw [hr1]; exact or_64 (s * 2147483648) (Y * 8388608) 31 (by omega) (by omega) (by omega) _ _ (by omega) (by omega)
      have o2 : bits .or .u64 (r1 : Int) ((f : Int) / 536870912) = (N : Int) := by
        rw [show N = r1 + f / 536870912 from by omega]; exact or_64 r1 (f / 536870912) 23 (by omega) (by omega) (by omega) _ _ rfl (by omega)
      have hY3 : Y < 256 := by omega
      clear hr1 hN hNl hn hY h31
      by_cases hV : V = a
      · have hVi : ((V : Int) != (a : Int)) = false := by rw [hV]; simp
        have HF : Hid ((if V = a then some N else none) = some N) := Lib.hid (if_pos hV)
        rw [HF.out]
        clear hV
        go_enter Tryz.func58, Tryz.ntmps58
        go_wp2_with (first | (go_at_call 56; refine (rIsWidth_calls _ _).mono ?_; rintro o w1 ⟨rfl, rfl⟩) | (go_at_call 57; refine (rsizes_calls _ 23 8 _ (.inr ⟨rfl, rfl, rfl⟩)).mono ?_; rintro o w1 ⟨rfl, rfl⟩))
        go_quiet (fail)
        go_wp2_with (go_at_call 36; refine (HWd.out _).mono ?_; rintro o w2 ⟨rfl, hb2⟩)
        go_ret2
        exact ⟨rfl, (Qu.mk _ _).trans hb2⟩
      · have hVi : ((V : Int) != (a : Int)) = true := by simp; omega
        have HF : Hid ((if V = a then some N else none) = none) := Lib.hid (if_neg hV)
        rw [HF.out]
        clear hV
        go_enter Tryz.func58, Tryz.ntmps58
        go_wp2_with (first | (go_at_call 56; refine (rIsWidth_calls _ _).mono ?_; rintro o w1 ⟨rfl, rfl⟩) | (go_at_call 57; refine (rsizes_calls _ 23 8 _ (.inr ⟨rfl, rfl, rfl⟩)).mono ?_; rintro o w1 ⟨rfl, rfl⟩))
        go_quiet (fail)
        go_wp2_with (go_at_call 36; refine (HWd.out _).mono ?_; rintro o w2 ⟨rfl, hb2⟩)
        go_ret2
        exact ⟨rfl, (Qu.mk _ _).trans hb2⟩
    · rw [if_neg hn] at hN
      obtain ⟨Y, hY⟩ : ∃ Y : Int, Y = (e : Int) - 1023 + 127 := ⟨_, rfl⟩
      have hYi : (e : Int) - 1023 + 127 = Y := hY.symm
      by_cases hsb : 873 < e ∧ e ≤ 896
      · rw [if_pos hsb] at hN
        have hY1 : ¬ (0 : Int) < Y := by omega
        have hY2 : (-23 : Int) < Y := by omega
        have hY3 : Y ≤ 0 := by omega
        have he0 : (0 : Int) < (e : Int) := by omega
        obtain ⟨t, ht⟩ : ∃ t, t = 926 - e := ⟨_, rfl⟩
        have hti : 30 - Y = (t : Int) := by omega
        have htl : t < 64 := by omega
        have htg : 30 ≤ t := by omega
        obtain ⟨g, hg⟩ : ∃ g, g = 4503599627370496 + f := ⟨_, rfl⟩
        have hgi : 4503599627370496 + (f : Int) = (g : Int) := by omega
        have o1 : bits .or .u64 4503599627370496 (f : Int) = (g : Int) := by
          rw [hg]; exact or_64 4503599627370496 f 52 (by omega) (by decide) (by omega) _ _ rfl rfl
        have hgq : g / 2 ^ t < 8388608 := by
          have h6 : 2 ^ 30 ≤ 2 ^ t := Nat.pow_le_pow_right (by decide) htg
          have h7 : g / 2 ^ t ≤ g / 2 ^ 30 := Nat.div_le_div_left h6 (by decide)
          have h8 : g / 2 ^ 30 < 8388608 := by
            rw [show (2 : Nat) ^ 30 = 1073741824 from by decide]
            omega
          omega
        have o2 : bits .or .u64 ((s : Int) * 2147483648) ((g : Int) / 2 ^ t) = (N : Int) := by
          rw [hN, ← ht, ← hg]; exact or_64 (s * 2147483648) (g / 2 ^ t) 23 hgq (by omega) (by omega) _ _ (by omega) (by push_cast; rfl)
        clear hY h31 hn hsb hNl hN hg ht hgq htg
        by_cases hV : V = a
        · have hVi : ((V : Int) != (a : Int)) = false := by rw [hV]; simp
          have HF : Hid ((if V = a then some N else none) = some N) := Lib.hid (if_pos hV)
          rw [HF.out]
          clear hV
          go_enter Tryz.func58, Tryz.ntmps58
          go_wp2_with (first | (go_at_call 56; refine (rIsWidth_calls _ _).mono ?_; rintro o w1 ⟨rfl, rfl⟩) | (go_at_call 57; refine (rsizes_calls _ 23 8 _ (.inr ⟨rfl, rfl, rfl⟩)).mono ?_; rintro o w1 ⟨rfl, rfl⟩) | (go_at_call 36; refine (HWd.out _).mono ?_; rintro o w2 ⟨rfl, hb2⟩))
          go_ret2
          exact ⟨rfl, hb2⟩
        · have hVi : ((V : Int) != (a : Int)) = true := by simp; omega
          have HF : Hid ((if V = a then some N else none) = none) := Lib.hid (if_neg hV)
          rw [HF.out]
          clear hV
          go_enter Tryz.func58, Tryz.ntmps58
          go_wp2_with (first | (go_at_call 56; refine (rIsWidth_calls _ _).mono ?_; rintro o w1 ⟨rfl, rfl⟩) | (go_at_call 57; refine (rsizes_calls _ 23 8 _ (.inr ⟨rfl, rfl, rfl⟩)).mono ?_; rintro o w1 ⟨rfl, rfl⟩) | (go_at_call 36; refine (HWd.out _).mono ?_; rintro o w2 ⟨rfl, hb2⟩))
          go_ret2
          exact ⟨rfl, hb2⟩
      · rw [if_neg hsb] at hN
        have hsN : (s : Int) * 2147483648 = (N : Int) := by omega
        have hcs : e = 0 ∨ (0 < e ∧ Y ≤ -23) ∨ (0 < e ∧ 255 ≤ Y) := by omega
        clear hn hsb hNl hN h31
        rcases hcs with rfl | ⟨h1, h2⟩ | ⟨h1, h2⟩
        · have hYv : Y = -896 := by omega
          subst hYv
          clear hY
          by_cases hV : V = a
          · have hVi : ((V : Int) != (a : Int)) = false := by rw [hV]; simp
            have HF : Hid ((if V = a then some N else none) = some N) := Lib.hid (if_pos hV)
            rw [HF.out]
            clear hV
            go_enter Tryz.func58, Tryz.ntmps58
            go_wp2_with (first | (go_at_call 56; refine (rIsWidth_calls _ _).mono ?_; rintro o w1 ⟨rfl, rfl⟩) | (go_at_call 57; refine (rsizes_calls _ 23 8 _ (.inr ⟨rfl, rfl, rfl⟩)).mono ?_; rintro o w1 ⟨rfl, rfl⟩) | (go_at_call 36; refine (HWd.out _).mono ?_; rintro o w2 ⟨rfl, hb2⟩))
            go_ret2
            exact ⟨rfl, hb2⟩
          · have hVi : ((V : Int) != (a : Int)) = true := by simp; omega
            have HF : Hid ((if V = a then some N else none) = none) := Lib.hid (if_neg hV)
            rw [HF.out]
            clear hV
            go_enter Tryz.func58, Tryz.ntmps58
            go_wp2_with (first | (go_at_call 56; refine (rIsWidth_calls _ _).mono ?_; rintro o w1 ⟨rfl, rfl⟩) | (go_at_call 57; refine (rsizes_calls _ 23 8 _ (.inr ⟨rfl, rfl, rfl⟩)).mono ?_; rintro o w1 ⟨rfl, rfl⟩) | (go_at_call 36; refine (HWd.out _).mono ?_; rintro o w2 ⟨rfl, hb2⟩))
            go_ret2
            exact ⟨rfl, hb2⟩
        · have h1i : (0 : Int) < (e : Int) := by omega
          have hY1 : ¬ (0 : Int) < Y := by omega
          have hY2 : ¬ (-23 : Int) < Y := by omega
          clear hY
          by_cases hV : V = a
          · have hVi : ((V : Int) != (a : Int)) = false := by rw [hV]; simp
            have HF : Hid ((if V = a then some N else none) = some N) := Lib.hid (if_pos hV)
            rw [HF.out]
            clear hV
            go_enter Tryz.func58, Tryz.ntmps58
            go_wp2_with (first | (go_at_call 56; refine (rIsWidth_calls _ _).mono ?_; rintro o w1 ⟨rfl, rfl⟩) | (go_at_call 57; refine (rsizes_calls _ 23 8 _ (.inr ⟨rfl, rfl, rfl⟩)).mono ?_; rintro o w1 ⟨rfl, rfl⟩) | (go_at_call 36; refine (HWd.out _).mono ?_; rintro o w2 ⟨rfl, hb2⟩))
            go_ret2
            exact ⟨rfl, hb2⟩
          · have hVi : ((V : Int) != (a : Int)) = true := by simp; omega
            have HF : Hid ((if V = a then some N else none) = none) := Lib.hid (if_neg hV)
            rw [HF.out]
            clear hV
            go_enter Tryz.func58, Tryz.ntmps58
            go_wp2_with (first | (go_at_call 56; refine (rIsWidth_calls _ _).mono ?_; rintro o w1 ⟨rfl, rfl⟩) | (go_at_call 57; refine (rsizes_calls _ 23 8 _ (.inr ⟨rfl, rfl, rfl⟩)).mono ?_; rintro o w1 ⟨rfl, rfl⟩) | (go_at_call 36; refine (HWd.out _).mono ?_; rintro o w2 ⟨rfl, hb2⟩))
            go_ret2
            exact ⟨rfl, hb2⟩
        · have h1i : (0 : Int) < (e : Int) := by omega
          have hY1 : (0 : Int) < Y := by omega
          have hY2 : ¬ Y < (255 : Int) := by omega
          have hY3 : (-23 : Int) < Y := by omega
          have hY4 : ¬ Y ≤ 0 := by omega
          clear hY
          by_cases hV : V = a
          · have hVi : ((V : Int) != (a : Int)) = false := by rw [hV]; simp
            have HF : Hid ((if V = a then some N else none) = some N) := Lib.hid (if_pos hV)
            rw [HF.out]
            clear hV
            go_enter Tryz.func58, Tryz.ntmps58
            go_wp2_with (first | (go_at_call 56; refine (rIsWidth_calls _ _).mono ?_; rintro o w1 ⟨rfl, rfl⟩) | (go_at_call 57; refine (rsizes_calls _ 23 8 _ (.inr ⟨rfl, rfl, rfl⟩)).mono ?_; rintro o w1 ⟨rfl, rfl⟩) | (go_at_call 36; refine (HWd.out _).mono ?_; rintro o w2 ⟨rfl, hb2⟩))
            go_ret2
            exact ⟨rfl, hb2⟩
          · have hVi : ((V : Int) != (a : Int)) = true := by simp; omega
            have HF : Hid ((if V = a then some N else none) = none) := Lib.hid (if_neg hV)
            rw [HF.out]
            clear hV
            go_enter Tryz.func58, Tryz.ntmps58
            go_wp2_with (first | (go_at_call 56; refine (rIsWidth_calls _ _).mono ?_; rintro o w1 ⟨rfl, rfl⟩) | (go_at_call 57; refine (rsizes_calls _ 23 8 _ (.inr ⟨rfl, rfl, rfl⟩)).mono ?_; rintro o w1 ⟨rfl, rfl⟩) | (go_at_call 36; refine (HWd.out _).mono ?_; rintro o w2 ⟨rfl, hb2⟩))
            go_ret2
            exact ⟨rfl, hb2⟩

set_option maxRecDepth 100000 in
set_option maxHeartbeats 1000000 in
theorem rNarrow_no (a : Nat) (x : Int) (w : World) (hx : isW x = false) : Calls Tryz.prog 58 #[.int .u64 (a : Int), .int .i64 x] w fun o w' => o = .returned (.tuple #[.int .u64 0, .bool false]) ∧ Qu w w' := by
  have HX := Lib.hid (fun w => (rIsWidth_calls x w).mono fun o w' (h : _ ∧ _) => (show o = .returned (.bool false) ∧ w = w' from ⟨by rw [h.1, hx], h.2⟩))
  clear hx
  go_enter Tryz.func58, Tryz.ntmps58
  go_wp2_with (go_at_call 56; refine (HX.out _).mono ?_; rintro o w1 ⟨rfl, rfl⟩)
  go_ret2
  exact ⟨rfl, Qu.refl _⟩
set_option maxRecDepth 100000 in
set_option maxHeartbeats 1000000 in
theorem rNarrow_64 (a : Nat) (w : World) : Calls Tryz.prog 58 #[.int .u64 (a : Int), .int .i64 64] w fun o w' => o = .returned (.tuple #[.int .u64 (a : Int), .bool true]) ∧ Qu w w' := by
  go_enter Tryz.func58, Tryz.ntmps58
  go_wp2_with (go_at_call 56; refine (rIsWidth_calls _ _).mono ?_; rintro o w1 ⟨rfl, rfl⟩)
  go_ret2
  exact ⟨rfl, Qu.refl _⟩
theorem rNarrow_calls (a : Nat) (x : Int) (w : World) (ha : a < 18446744073709551616) : Calls Tryz.prog 58 #[.int .u64 (a : Int), .int .i64 x] w (NarP (narO a x) w) := by
  by_cases h16 : x = 16
  · subst h16; exact rNarrow16 a w ha
  · by_cases h32 : x = 32
    · subst h32; exact rNarrow32 a w ha
    · by_cases h64 : x = 64
      · subst h64
        refine (rNarrow_64 a w).mono ?_
        rintro o w' ⟨rfl, hw⟩
        exact ⟨by rw [narO, if_neg h16, if_neg h32, if_pos rfl]; rfl, hw⟩
      · refine (rNarrow_no a x w (by simp [isW, h16, h32, h64])).mono ?_
        rintro o w' ⟨rfl, hw⟩
        exact ⟨by rw [narO, if_neg h16, if_neg h32, if_neg h64]; rfl, hw⟩
set_option maxRecDepth 100000 in
set_option maxHeartbeats 1000000 in
theorem rLeast_walk (a v1 v2 : Nat) (b1 b2 : Bool) (w : World)
    (h1 : ∀ W, Calls Tryz.prog 58 #[.int .u64 (a : Int), .int .i64 16] W fun o w' => o = .returned (.tuple #[.int .u64 (v1 : Int), .bool b1]) ∧ Qu W w')
    (h2 : ∀ W, Calls Tryz.prog 58 #[.int .u64 (a : Int), .int .i64 32] W fun o w' => o = .returned (.tuple #[.int .u64 (v2 : Int), .bool b2]) ∧ Qu W w') :
    Calls Tryz.prog 37 #[.int .u64 (a : Int)] w fun o w' => o = .returned (.int .i64 (if b1 = true then 16 else if b2 = true then 32 else 64)) ∧ Qu w w' := by
  have H1 := Lib.hid h1
  have H2 := Lib.hid h2
  clear h1 h2
  go_enter Tryz.func37, Tryz.ntmps37
  go_wp2_with fail
  refine (H1.out _).mono ?_
  rintro o w1 ⟨rfl, hb1⟩
  go_wp2_with fail
  refine (H2.out _).mono ?_
  rintro o w2 ⟨rfl, hb2⟩
  have HB := Lib.hid (Qu.trans hb1 hb2)
  clear hb1 hb2
  cases b1
  · cases b2
    · go_wp2
      go_ret
      exact ⟨rfl, HB.out⟩
    · go_wp2
      go_ret
      exact ⟨rfl, HB.out⟩
  · go_wp2
    go_ret
    exact ⟨rfl, HB.out⟩
theorem rLeast_calls (a : Nat) (w : World) (ha : a < 18446744073709551616) : Calls Tryz.prog 37 #[.int .u64 (a : Int)] w fun o w' => o = .returned (.int .i64 (leastW a)) ∧ Qu w w' := by
  refine (rLeast_walk a _ _ _ _ w (fun W => rNarrow_calls a 16 W ha) (fun W => rNarrow_calls a 32 W ha)).mono ?_
  rintro o w' ⟨rfl, hb⟩
  refine ⟨?_, hb⟩
  have e16 : narO a 16 = if wid16 (nar16 a) = a then some (nar16 a) else none := by rw [narO, if_pos rfl]
  have e32 : narO a 32 = if wid32 (nar32 a) = a then some (nar32 a) else none := by rw [narO, if_neg (by decide), if_pos rfl]
  rw [leastW, e16, e32]
  by_cases h1 : wid16 (nar16 a) = a
  · simp [h1]
  · by_cases h2 : wid32 (nar32 a) = a
    · simp [h1, h2]
    · simp [h1, h2]

end Go.Proofs.YtomociaidccfmaaGreatDoor.Qn
