/- The walks of the document's own Narrow, Least. -/
import Derived.Test.YtomociaidccfmaaGreatDoorMg
import Derived.Test.YtomociaidccfmaaGreatDoorF7
namespace Go.Proofs.YtomociaidccfmaaGreatDoor
open Go.RowKit
/-- What a call that narrows tells. -/
def NarP (r : Option Nat) (w : World) (o : Ending) (w' : World) : Prop := o = .returned (.tuple #[.int .u64 (r.getD 0 : Nat), .bool r.isSome]) ∧ Below w.heap.size w w'

theorem nar_all16 {a : Nat} (ha : a < 18446744073709551616) : nar16 a < 65536 := by
  by_cases h : a < 9223372036854775808
  · have := (nar_flip16 h).2; omega
  · obtain ⟨h1, h2⟩ := nar_flip16 (a := a - 9223372036854775808) (by omega)
    rw [show a - 9223372036854775808 + 9223372036854775808 = a from by omega] at h1
    omega
set_option maxRecDepth 100000 in
set_option maxHeartbeats 2000000 in
theorem rNarrow16 (a : Nat) (w : World) (ha : a < 18446744073709551616) : Calls Tryz.prog 58 #[.int .u64 (a : Int), .int .i64 16] w (NarP (narO a 16) w) := by
  obtain ⟨N, hN⟩ : ∃ N, N = nar16 a := ⟨_, rfl⟩
  have hNl : N < 65536 := by rw [hN]; exact nar_all16 ha
  obtain ⟨V, hV⟩ : ∃ V, V = wid16 N := ⟨_, rfl⟩
  have HWd : Hid (∀ W, Calls Tryz.prog 36 #[.int .u64 (N : Int), .int .i64 16] W fun o w' => o = .returned (.tuple #[.int .u64 (V : Int), .int .i64 0]) ∧ Below W.heap.size W w') := Lib.hid (fun W => by rw [hV]; exact rWiden16 N W hNl)
  have HR : Hid (narO a 16 = if V = a then some N else none) := Lib.hid (by rw [hV, hN]; rw [narO, if_pos rfl])
  have a1 : bits .and .u64 ((a : Int) / 4503599627370496) 2047 = ((a / 4503599627370496 % 2048 : Nat) : Int) := and_64 (a / 4503599627370496) 11 2047 (by decide) (by decide) (by omega) _ _ (by omega) rfl
  have a2 : bits .and .u64 (a : Int) 4503599627370495 = ((a % 4503599627370496 : Nat) : Int) := and_64 a 52 4503599627370495 (by decide) (by decide) ha _ _ rfl rfl
  obtain ⟨e, he⟩ : ∃ e, e = a / 4503599627370496 % 2048 := ⟨_, rfl⟩
  obtain ⟨f, hf⟩ : ∃ f, f = a % 4503599627370496 := ⟨_, rfl⟩
  obtain ⟨s, hs⟩ : ∃ s, s = a / 9223372036854775808 := ⟨_, rfl⟩
  have hsi : (a : Int) / 9223372036854775808 = (s : Int) := by omega
  rw [← he] at a1
  rw [← hf] at a2
  have he32 : e < 2048 := by omega
  have hf10 : f < 4503599627370496 := by omega
  have hs2 : s < 2 := by omega
  rw [HR.out]
  rw [nar16, ← he, ← hf, ← hs] at hN
  clear hV HR he hf hs
  by_cases h31 : e = 2047
  · subst h31
    rw [if_pos rfl] at hN
    obtain ⟨r1, hr1⟩ : ∃ r1, r1 = s * 32768 + 31744 := ⟨_, rfl⟩
    have o1 : bits .or .u64 ((s : Int) * 32768) 31744 = (r1 : Int) := by
      rw [hr1]; exact or_64 (s * 32768) 31744 15 (by decide) (by omega) (by omega) _ _ (by omega) rfl
    have o2 : bits .or .u64 (r1 : Int) ((f : Int) / 4398046511104) = (N : Int) := by
      rw [show N = r1 + f / 4398046511104 from by omega]; exact or_64 r1 (f / 4398046511104) 10 (by omega) (by omega) (by omega) _ _ rfl (by omega)
    clear hr1 hN hNl
    by_cases hV : V = a
    · have hVi : ((V : Int) != (a : Int)) = false := by rw [hV]; simp
      have HF : Hid ((if V = a then some N else none) = some N) := Lib.hid (if_pos hV)
      rw [HF.out]
      clear hV
      go_enter Tryz.func58, Tryz.ntmps58
      go_wp2_with (first | (go_at_call 56; refine (rIsWidth_calls _ _).mono ?_; rintro o w1 ⟨rfl, rfl⟩) | (go_at_call 57; refine (rsizes_calls _ 10 5 _ (.inl ⟨rfl, rfl, rfl⟩)).mono ?_; rintro o w1 ⟨rfl, rfl⟩))
      go_quiet (fail)
      go_wp2_with (go_at_call 36; refine (HWd.out _).mono ?_; rintro o w2 ⟨rfl, hb2⟩)
      go_ret2
      exact ⟨rfl, (below_drewN (Below.refl _ _) _).trans hb2⟩
    · have hVi : ((V : Int) != (a : Int)) = true := by simp; omega
      have HF : Hid ((if V = a then some N else none) = none) := Lib.hid (if_neg hV)
      rw [HF.out]
      clear hV
      go_enter Tryz.func58, Tryz.ntmps58
      go_wp2_with (first | (go_at_call 56; refine (rIsWidth_calls _ _).mono ?_; rintro o w1 ⟨rfl, rfl⟩) | (go_at_call 57; refine (rsizes_calls _ 10 5 _ (.inl ⟨rfl, rfl, rfl⟩)).mono ?_; rintro o w1 ⟨rfl, rfl⟩))
      go_quiet (fail)
      go_wp2_with (go_at_call 36; refine (HWd.out _).mono ?_; rintro o w2 ⟨rfl, hb2⟩)
      go_ret2
      exact ⟨rfl, (below_drewN (Below.refl _ _) _).trans hb2⟩
  · have h31i : ((e : Int) == 2047) = false := by simp; omega
    rw [if_neg h31] at hN
    by_cases hn : 1008 < e ∧ e < 1039
    · rw [if_pos hn] at hN
      obtain ⟨Y, hY⟩ : ∃ Y, Y = e - 1008 := ⟨_, rfl⟩
      have hYi : (e : Int) - 1023 + 15 = (Y : Int) := by omega
      have hY1 : (0 : Int) < (Y : Int) := by omega
      have hY2 : (Y : Int) < 31 := by omega
      obtain ⟨r1, hr1⟩ : ∃ r1, r1 = s * 32768 + Y * 1024 := ⟨_, rfl⟩
      have o1 : bits .or .u64 ((s : Int) * 32768) ((Y : Int) * 1024) = (r1 : Int) := by
        rw [hr1]; exact or_64 (s * 32768) (Y * 1024) 15 (by omega) (by omega) (by omega) _ _ (by omega) (by omega)
      have o2 : bits .or .u64 (r1 : Int) ((f : Int) / 4398046511104) = (N : Int) := by
        rw [show N = r1 + f / 4398046511104 from by omega]; exact or_64 r1 (f / 4398046511104) 10 (by omega) (by omega) (by omega) _ _ rfl (by omega)
      have hY3 : Y < 32 := by omega
      clear hr1 hN hNl hn hY h31
      by_cases hV : V = a
      · have hVi : ((V : Int) != (a : Int)) = false := by rw [hV]; simp
        have HF : Hid ((if V = a then some N else none) = some N) := Lib.hid (if_pos hV)
        rw [HF.out]
        clear hV
        go_enter Tryz.func58, Tryz.ntmps58
        go_wp2_with (first | (go_at_call 56; refine (rIsWidth_calls _ _).mono ?_; rintro o w1 ⟨rfl, rfl⟩) | (go_at_call 57; refine (rsizes_calls _ 10 5 _ (.inl ⟨rfl, rfl, rfl⟩)).mono ?_; rintro o w1 ⟨rfl, rfl⟩))
        go_quiet (fail)
        go_wp2_with (go_at_call 36; refine (HWd.out _).mono ?_; rintro o w2 ⟨rfl, hb2⟩)
        go_ret2
        exact ⟨rfl, (below_drewN (Below.refl _ _) _).trans hb2⟩
      · have hVi : ((V : Int) != (a : Int)) = true := by simp; omega
        have HF : Hid ((if V = a then some N else none) = none) := Lib.hid (if_neg hV)
        rw [HF.out]
        clear hV
        go_enter Tryz.func58, Tryz.ntmps58
        go_wp2_with (first | (go_at_call 56; refine (rIsWidth_calls _ _).mono ?_; rintro o w1 ⟨rfl, rfl⟩) | (go_at_call 57; refine (rsizes_calls _ 10 5 _ (.inl ⟨rfl, rfl, rfl⟩)).mono ?_; rintro o w1 ⟨rfl, rfl⟩))
        go_quiet (fail)
        go_wp2_with (go_at_call 36; refine (HWd.out _).mono ?_; rintro o w2 ⟨rfl, hb2⟩)
        go_ret2
        exact ⟨rfl, (below_drewN (Below.refl _ _) _).trans hb2⟩
    · rw [if_neg hn] at hN
      obtain ⟨Y, hY⟩ : ∃ Y : Int, Y = (e : Int) - 1023 + 15 := ⟨_, rfl⟩
      have hYi : (e : Int) - 1023 + 15 = Y := hY.symm
      by_cases hsb : 998 < e ∧ e ≤ 1008
      · rw [if_pos hsb] at hN
        have hY1 : ¬ (0 : Int) < Y := by omega
        have hY2 : (-10 : Int) < Y := by omega
        have hY3 : Y ≤ 0 := by omega
        have he0 : (0 : Int) < (e : Int) := by omega
        obtain ⟨t, ht⟩ : ∃ t, t = 1051 - e := ⟨_, rfl⟩
        have hti : 43 - Y = (t : Int) := by omega
        have htl : t < 64 := by omega
        have htg : 43 ≤ t := by omega
        obtain ⟨g, hg⟩ : ∃ g, g = 4503599627370496 + f := ⟨_, rfl⟩
        have hgi : 4503599627370496 + (f : Int) = (g : Int) := by omega
        have o1 : bits .or .u64 4503599627370496 (f : Int) = (g : Int) := by
          rw [hg]; exact or_64 4503599627370496 f 52 (by omega) (by decide) (by omega) _ _ rfl rfl
        have hgq : g / 2 ^ t < 1024 := by
          have h6 : 2 ^ 43 ≤ 2 ^ t := Nat.pow_le_pow_right (by decide) htg
          have h7 : g / 2 ^ t ≤ g / 2 ^ 43 := Nat.div_le_div_left h6 (by decide)
          have h8 : g / 2 ^ 43 < 1024 := by
            rw [show (2 : Nat) ^ 43 = 8796093022208 from by decide]
            omega
          omega
        have o2 : bits .or .u64 ((s : Int) * 32768) ((g : Int) / 2 ^ t) = (N : Int) := by
          rw [hN, ← ht, ← hg]; exact or_64 (s * 32768) (g / 2 ^ t) 10 hgq (by omega) (by omega) _ _ (by omega) (by push_cast; rfl)
        clear hY h31 hn hsb hNl hN hg ht hgq htg
        by_cases hV : V = a
        · have hVi : ((V : Int) != (a : Int)) = false := by rw [hV]; simp
          have HF : Hid ((if V = a then some N else none) = some N) := Lib.hid (if_pos hV)
          rw [HF.out]
          clear hV
          go_enter Tryz.func58, Tryz.ntmps58
          go_wp2_with (first | (go_at_call 56; refine (rIsWidth_calls _ _).mono ?_; rintro o w1 ⟨rfl, rfl⟩) | (go_at_call 57; refine (rsizes_calls _ 10 5 _ (.inl ⟨rfl, rfl, rfl⟩)).mono ?_; rintro o w1 ⟨rfl, rfl⟩) | (go_at_call 36; refine (HWd.out _).mono ?_; rintro o w2 ⟨rfl, hb2⟩))
          go_ret2
          exact ⟨rfl, hb2⟩
        · have hVi : ((V : Int) != (a : Int)) = true := by simp; omega
          have HF : Hid ((if V = a then some N else none) = none) := Lib.hid (if_neg hV)
          rw [HF.out]
          clear hV
          go_enter Tryz.func58, Tryz.ntmps58
          go_wp2_with (first | (go_at_call 56; refine (rIsWidth_calls _ _).mono ?_; rintro o w1 ⟨rfl, rfl⟩) | (go_at_call 57; refine (rsizes_calls _ 10 5 _ (.inl ⟨rfl, rfl, rfl⟩)).mono ?_; rintro o w1 ⟨rfl, rfl⟩) | (go_at_call 36; refine (HWd.out _).mono ?_; rintro o w2 ⟨rfl, hb2⟩))
          go_ret2
          exact ⟨rfl, hb2⟩
      · rw [if_neg hsb] at hN
        have hsN : (s : Int) * 32768 = (N : Int) := by omega
        have hcs : e = 0 ∨ (0 < e ∧ Y ≤ -10) ∨ (0 < e ∧ 31 ≤ Y) := by omega
        clear hn hsb hNl hN h31
        rcases hcs with rfl | ⟨h1, h2⟩ | ⟨h1, h2⟩
        · have hYv : Y = -1008 := by omega
          subst hYv
          clear hY
          by_cases hV : V = a
          · have hVi : ((V : Int) != (a : Int)) = false := by rw [hV]; simp
            have HF : Hid ((if V = a then some N else none) = some N) := Lib.hid (if_pos hV)
            rw [HF.out]
            clear hV
            go_enter Tryz.func58, Tryz.ntmps58
            go_wp2_with (first | (go_at_call 56; refine (rIsWidth_calls _ _).mono ?_; rintro o w1 ⟨rfl, rfl⟩) | (go_at_call 57; refine (rsizes_calls _ 10 5 _ (.inl ⟨rfl, rfl, rfl⟩)).mono ?_; rintro o w1 ⟨rfl, rfl⟩) | (go_at_call 36; refine (HWd.out _).mono ?_; rintro o w2 ⟨rfl, hb2⟩))
            go_ret2
            exact ⟨rfl, hb2⟩
          · have hVi : ((V : Int) != (a : Int)) = true := by simp; omega
            have HF : Hid ((if V = a then some N else none) = none) := Lib.hid (if_neg hV)
            rw [HF.out]
            clear hV
            go_enter Tryz.func58, Tryz.ntmps58
            go_wp2_with (first | (go_at_call 56; refine (rIsWidth_calls _ _).mono ?_; rintro o w1 ⟨rfl, rfl⟩) | (go_at_call 57; refine (rsizes_calls _ 10 5 _ (.inl ⟨rfl, rfl, rfl⟩)).mono ?_; rintro o w1 ⟨rfl, rfl⟩) | (go_at_call 36; refine (HWd.out _).mono ?_; rintro o w2 ⟨rfl, hb2⟩))
            go_ret2
            exact ⟨rfl, hb2⟩
        · have h1i : (0 : Int) < (e : Int) := by omega
          have hY1 : ¬ (0 : Int) < Y := by omega
          have hY2 : ¬ (-10 : Int) < Y := by omega
          clear hY
          by_cases hV : V = a
          · have hVi : ((V : Int) != (a : Int)) = false := by rw [hV]; simp
            have HF : Hid ((if V = a then some N else none) = some N) := Lib.hid (if_pos hV)
            rw [HF.out]
            clear hV
            go_enter Tryz.func58, Tryz.ntmps58
            go_wp2_with (first | (go_at_call 56; refine (rIsWidth_calls _ _).mono ?_; rintro o w1 ⟨rfl, rfl⟩) | (go_at_call 57; refine (rsizes_calls _ 10 5 _ (.inl ⟨rfl, rfl, rfl⟩)).mono ?_; rintro o w1 ⟨rfl, rfl⟩) | (go_at_call 36; refine (HWd.out _).mono ?_; rintro o w2 ⟨rfl, hb2⟩))
            go_ret2
            exact ⟨rfl, hb2⟩
          · have hVi : ((V : Int) != (a : Int)) = true := by simp; omega
            have HF : Hid ((if V = a then some N else none) = none) := Lib.hid (if_neg hV)
            rw [HF.out]
            clear hV
            go_enter Tryz.func58, Tryz.ntmps58
            go_wp2_with (first | (go_at_call 56; refine (rIsWidth_calls _ _).mono ?_; rintro o w1 ⟨rfl, rfl⟩) | (go_at_call 57; refine (rsizes_calls _ 10 5 _ (.inl ⟨rfl, rfl, rfl⟩)).mono ?_; rintro o w1 ⟨rfl, rfl⟩) | (go_at_call 36; refine (HWd.out _).mono ?_; rintro o w2 ⟨rfl, hb2⟩))
            go_ret2
            exact ⟨rfl, hb2⟩
        · have h1i : (0 : Int) < (e : Int) := by omega
          have hY1 : (0 : Int) < Y := by omega
          have hY2 : ¬ Y < (31 : Int) := by omega
          have hY3 : (-10 : Int) < Y := by omega
          have hY4 : ¬ Y ≤ 0 := by omega
          clear hY
          by_cases hV : V = a
          · have hVi : ((V : Int) != (a : Int)) = false := by rw [hV]; simp
            have HF : Hid ((if V = a then some N else none) = some N) := Lib.hid (if_pos hV)
            rw [HF.out]
            clear hV
            go_enter Tryz.func58, Tryz.ntmps58
            go_wp2_with (first | (go_at_call 56; refine (rIsWidth_calls _ _).mono ?_; rintro o w1 ⟨rfl, rfl⟩) | (go_at_call 57; refine (rsizes_calls _ 10 5 _ (.inl ⟨rfl, rfl, rfl⟩)).mono ?_; rintro o w1 ⟨rfl, rfl⟩) | (go_at_call 36; refine (HWd.out _).mono ?_; rintro o w2 ⟨rfl, hb2⟩))
            go_ret2
            exact ⟨rfl, hb2⟩
          · have hVi : ((V : Int) != (a : Int)) = true := by simp; omega
            have HF : Hid ((if V = a then some N else none) = none) := Lib.hid (if_neg hV)
            rw [HF.out]
            clear hV
            go_enter Tryz.func58, Tryz.ntmps58
            go_wp2_with (first | (go_at_call 56; refine (rIsWidth_calls _ _).mono ?_; rintro o w1 ⟨rfl, rfl⟩) | (go_at_call 57; refine (rsizes_calls _ 10 5 _ (.inl ⟨rfl, rfl, rfl⟩)).mono ?_; rintro o w1 ⟨rfl, rfl⟩) | (go_at_call 36; refine (HWd.out _).mono ?_; rintro o w2 ⟨rfl, hb2⟩))
            go_ret2
            exact ⟨rfl, hb2⟩

theorem nar_all32 {a : Nat} (ha : a < 18446744073709551616) : nar32 a < 4294967296 := by
  by_cases h : a < 9223372036854775808
  · have := (nar_flip32 h).2; omega
  · obtain ⟨h1, h2⟩ := nar_flip32 (a := a - 9223372036854775808) (by omega)
    rw [show a - 9223372036854775808 + 9223372036854775808 = a from by omega] at h1
    omega
set_option maxRecDepth 100000 in
set_option maxHeartbeats 2000000 in
theorem rNarrow32 (a : Nat) (w : World) (ha : a < 18446744073709551616) : Calls Tryz.prog 58 #[.int .u64 (a : Int), .int .i64 32] w (NarP (narO a 32) w) := by
  obtain ⟨N, hN⟩ : ∃ N, N = nar32 a := ⟨_, rfl⟩
  have hNl : N < 4294967296 := by rw [hN]; exact nar_all32 ha
  obtain ⟨V, hV⟩ : ∃ V, V = wid32 N := ⟨_, rfl⟩
  have HWd : Hid (∀ W, Calls Tryz.prog 36 #[.int .u64 (N : Int), .int .i64 32] W fun o w' => o = .returned (.tuple #[.int .u64 (V : Int), .int .i64 0]) ∧ Below W.heap.size W w') := Lib.hid (fun W => by rw [hV]; exact rWiden32 N W hNl)
  have HR : Hid (narO a 32 = if V = a then some N else none) := Lib.hid (by rw [hV, hN]; rw [narO, if_neg (by decide), if_pos rfl])
  have a1 : bits .and .u64 ((a : Int) / 4503599627370496) 2047 = ((a / 4503599627370496 % 2048 : Nat) : Int) := and_64 (a / 4503599627370496) 11 2047 (by decide) (by decide) (by omega) _ _ (by omega) rfl
  have a2 : bits .and .u64 (a : Int) 4503599627370495 = ((a % 4503599627370496 : Nat) : Int) := and_64 a 52 4503599627370495 (by decide) (by decide) ha _ _ rfl rfl
  obtain ⟨e, he⟩ : ∃ e, e = a / 4503599627370496 % 2048 := ⟨_, rfl⟩
  obtain ⟨f, hf⟩ : ∃ f, f = a % 4503599627370496 := ⟨_, rfl⟩
  obtain ⟨s, hs⟩ : ∃ s, s = a / 9223372036854775808 := ⟨_, rfl⟩
  have hsi : (a : Int) / 9223372036854775808 = (s : Int) := by omega
  rw [← he] at a1
  rw [← hf] at a2
  have he32 : e < 2048 := by omega
  have hf10 : f < 4503599627370496 := by omega
  have hs2 : s < 2 := by omega
  rw [HR.out]
  rw [nar32, ← he, ← hf, ← hs] at hN
  clear hV HR he hf hs
  by_cases h31 : e = 2047
  · subst h31
    rw [if_pos rfl] at hN
    obtain ⟨r1, hr1⟩ : ∃ r1, r1 = s * 2147483648 + 2139095040 := ⟨_, rfl⟩
    have o1 : bits .or .u64 ((s : Int) * 2147483648) 2139095040 = (r1 : Int) := by
      rw [hr1]; exact or_64 (s * 2147483648) 2139095040 31 (by decide) (by omega) (by omega) _ _ (by omega) rfl
    have o2 : bits .or .u64 (r1 : Int) ((f : Int) / 536870912) = (N : Int) := by
      rw [show N = r1 + f / 536870912 from by omega]; exact or_64 r1 (f / 536870912) 23 (by omega) (by omega) (by omega) _ _ rfl (by omega)
    clear hr1 hN hNl
    by_cases hV : V = a
    · have hVi : ((V : Int) != (a : Int)) = false := by rw [hV]; simp
      have HF : Hid ((if V = a then some N else none) = some N) := Lib.hid (if_pos hV)
      rw [HF.out]
      clear hV
      go_enter Tryz.func58, Tryz.ntmps58
      go_wp2_with (first | (go_at_call 56; refine (rIsWidth_calls _ _).mono ?_; rintro o w1 ⟨rfl, rfl⟩) | (go_at_call 57; refine (rsizes_calls _ 23 8 _ (.inr ⟨rfl, rfl, rfl⟩)).mono ?_; rintro o w1 ⟨rfl, rfl⟩))
      go_quiet (fail)
      go_wp2_with (go_at_call 36; refine (HWd.out _).mono ?_; rintro o w2 ⟨rfl, hb2⟩)
      go_ret2
      exact ⟨rfl, (below_drewN (Below.refl _ _) _).trans hb2⟩
    · have hVi : ((V : Int) != (a : Int)) = true := by simp; omega
      have HF : Hid ((if V = a then some N else none) = none) := Lib.hid (if_neg hV)
      rw [HF.out]
      clear hV
      go_enter Tryz.func58, Tryz.ntmps58
      go_wp2_with (first | (go_at_call 56; refine (rIsWidth_calls _ _).mono ?_; rintro o w1 ⟨rfl, rfl⟩) | (go_at_call 57; refine (rsizes_calls _ 23 8 _ (.inr ⟨rfl, rfl, rfl⟩)).mono ?_; rintro o w1 ⟨rfl, rfl⟩))
      go_quiet (fail)
      go_wp2_with (go_at_call 36; refine (HWd.out _).mono ?_; rintro o w2 ⟨rfl, hb2⟩)
      go_ret2
      exact ⟨rfl, (below_drewN (Below.refl _ _) _).trans hb2⟩
  · have h31i : ((e : Int) == 2047) = false := by simp; omega
    rw [if_neg h31] at hN
    by_cases hn : 896 < e ∧ e < 1151
    · rw [if_pos hn] at hN
      obtain ⟨Y, hY⟩ : ∃ Y, Y = e - 896 := ⟨_, rfl⟩
      have hYi : (e : Int) - 1023 + 127 = (Y : Int) := by omega
      have hY1 : (0 : Int) < (Y : Int) := by omega
      have hY2 : (Y : Int) < 255 := by omega
      obtain ⟨r1, hr1⟩ : ∃ r1, r1 = s * 2147483648 + Y * 8388608 := ⟨_, rfl⟩
      have o1 : bits .or .u64 ((s : Int) * 2147483648) ((Y : Int) * 8388608) = (r1 : Int) := by
        rw [hr1]; exact or_64 (s * 2147483648) (Y * 8388608) 31 (by omega) (by omega) (by omega) _ _ (by omega) (by omega)
      have o2 : bits .or .u64 (r1 : Int) ((f : Int) / 536870912) = (N : Int) := by
        rw [show N = r1 + f / 536870912 from by omega]; exact or_64 r1 (f / 536870912) 23 (by omega) (by omega) (by omega) _ _ rfl (by omega)
      have hY3 : Y < 256 := by omega
      clear hr1 hN hNl hn hY h31
      by_cases hV : V = a
      · have hVi : ((V : Int) != (a : Int)) = false := by rw [hV]; simp
        have HF : Hid ((if V = a then some N else none) = some N) := Lib.hid (if_pos hV)
        rw [HF.out]
        clear hV
        go_enter Tryz.func58, Tryz.ntmps58
        go_wp2_with (first | (go_at_call 56; refine (rIsWidth_calls _ _).mono ?_; rintro o w1 ⟨rfl, rfl⟩) | (go_at_call 57; refine (rsizes_calls _ 23 8 _ (.inr ⟨rfl, rfl, rfl⟩)).mono ?_; rintro o w1 ⟨rfl, rfl⟩))
        go_quiet (fail)
        go_wp2_with (go_at_call 36; refine (HWd.out _).mono ?_; rintro o w2 ⟨rfl, hb2⟩)
        go_ret2
        exact ⟨rfl, (below_drewN (Below.refl _ _) _).trans hb2⟩
      · have hVi : ((V : Int) != (a : Int)) = true := by simp; omega
        have HF : Hid ((if V = a then some N else none) = none) := Lib.hid (if_neg hV)
        rw [HF.out]
        clear hV
        go_enter Tryz.func58, Tryz.ntmps58
        go_wp2_with (first | (go_at_call 56; refine (rIsWidth_calls _ _).mono ?_; rintro o w1 ⟨rfl, rfl⟩) | (go_at_call 57; refine (rsizes_calls _ 23 8 _ (.inr ⟨rfl, rfl, rfl⟩)).mono ?_; rintro o w1 ⟨rfl, rfl⟩))
        go_quiet (fail)
        go_wp2_with (go_at_call 36; refine (HWd.out _).mono ?_; rintro o w2 ⟨rfl, hb2⟩)
        go_ret2
        exact ⟨rfl, (below_drewN (Below.refl _ _) _).trans hb2⟩
    · rw [if_neg hn] at hN
      obtain ⟨Y, hY⟩ : ∃ Y : Int, Y = (e : Int) - 1023 + 127 := ⟨_, rfl⟩
      have hYi : (e : Int) - 1023 + 127 = Y := hY.symm
      by_cases hsb : 873 < e ∧ e ≤ 896
      · rw [if_pos hsb] at hN
        have hY1 : ¬ (0 : Int) < Y := by omega
        have hY2 : (-23 : Int) < Y := by omega
        have hY3 : Y ≤ 0 := by omega
        have he0 : (0 : Int) < (e : Int) := by omega
        obtain ⟨t, ht⟩ : ∃ t, t = 926 - e := ⟨_, rfl⟩
        have hti : 30 - Y = (t : Int) := by omega
        have htl : t < 64 := by omega
        have htg : 30 ≤ t := by omega
        obtain ⟨g, hg⟩ : ∃ g, g = 4503599627370496 + f := ⟨_, rfl⟩
        have hgi : 4503599627370496 + (f : Int) = (g : Int) := by omega
        have o1 : bits .or .u64 4503599627370496 (f : Int) = (g : Int) := by
          rw [hg]; exact or_64 4503599627370496 f 52 (by omega) (by decide) (by omega) _ _ rfl rfl
        have hgq : g / 2 ^ t < 8388608 := by
          have h6 : 2 ^ 30 ≤ 2 ^ t := Nat.pow_le_pow_right (by decide) htg
          have h7 : g / 2 ^ t ≤ g / 2 ^ 30 := Nat.div_le_div_left h6 (by decide)
          have h8 : g / 2 ^ 30 < 8388608 := by
            rw [show (2 : Nat) ^ 30 = 1073741824 from by decide]
            omega
          omega
        have o2 : bits .or .u64 ((s : Int) * 2147483648) ((g : Int) / 2 ^ t) = (N : Int) := by
          rw [hN, ← ht, ← hg]; exact or_64 (s * 2147483648) (g / 2 ^ t) 23 hgq (by omega) (by omega) _ _ (by omega) (by push_cast; rfl)
        clear hY h31 hn hsb hNl hN hg ht hgq htg
        by_cases hV : V = a
        · have hVi : ((V : Int) != (a : Int)) = false := by rw [hV]; simp
          have HF : Hid ((if V = a then some N else none) = some N) := Lib.hid (if_pos hV)
          rw [HF.out]
          clear hV
          go_enter Tryz.func58, Tryz.ntmps58
          go_wp2_with (first | (go_at_call 56; refine (rIsWidth_calls _ _).mono ?_; rintro o w1 ⟨rfl, rfl⟩) | (go_at_call 57; refine (rsizes_calls _ 23 8 _ (.inr ⟨rfl, rfl, rfl⟩)).mono ?_; rintro o w1 ⟨rfl, rfl⟩) | (go_at_call 36; refine (HWd.out _).mono ?_; rintro o w2 ⟨rfl, hb2⟩))
          go_ret2
          exact ⟨rfl, hb2⟩
        · have hVi : ((V : Int) != (a : Int)) = true := by simp; omega
          have HF : Hid ((if V = a then some N else none) = none) := Lib.hid (if_neg hV)
          rw [HF.out]
          clear hV
          go_enter Tryz.func58, Tryz.ntmps58
          go_wp2_with (first | (go_at_call 56; refine (rIsWidth_calls _ _).mono ?_; rintro o w1 ⟨rfl, rfl⟩) | (go_at_call 57; refine (rsizes_calls _ 23 8 _ (.inr ⟨rfl, rfl, rfl⟩)).mono ?_; rintro o w1 ⟨rfl, rfl⟩) | (go_at_call 36; refine (HWd.out _).mono ?_; rintro o w2 ⟨rfl, hb2⟩))
          go_ret2
          exact ⟨rfl, hb2⟩
      · rw [if_neg hsb] at hN
        have hsN : (s : Int) * 2147483648 = (N : Int) := by omega
        have hcs : e = 0 ∨ (0 < e ∧ Y ≤ -23) ∨ (0 < e ∧ 255 ≤ Y) := by omega
        clear hn hsb hNl hN h31
        rcases hcs with rfl | ⟨h1, h2⟩ | ⟨h1, h2⟩
        · have hYv : Y = -896 := by omega
          subst hYv
          clear hY
          by_cases hV : V = a
          · have hVi : ((V : Int) != (a : Int)) = false := by rw [hV]; simp
            have HF : Hid ((if V = a then some N else none) = some N) := Lib.hid (if_pos hV)
            rw [HF.out]
            clear hV
            go_enter Tryz.func58, Tryz.ntmps58
            go_wp2_with (first | (go_at_call 56; refine (rIsWidth_calls _ _).mono ?_; rintro o w1 ⟨rfl, rfl⟩) | (go_at_call 57; refine (rsizes_calls _ 23 8 _ (.inr ⟨rfl, rfl, rfl⟩)).mono ?_; rintro o w1 ⟨rfl, rfl⟩) | (go_at_call 36; refine (HWd.out _).mono ?_; rintro o w2 ⟨rfl, hb2⟩))
            go_ret2
            exact ⟨rfl, hb2⟩
          · have hVi : ((V : Int) != (a : Int)) = true := by simp; omega
            have HF : Hid ((if V = a then some N else none) = none) := Lib.hid (if_neg hV)
            rw [HF.out]
            clear hV
            go_enter Tryz.func58, Tryz.ntmps58
            go_wp2_with (first | (go_at_call 56; refine (rIsWidth_calls _ _).mono ?_; rintro o w1 ⟨rfl, rfl⟩) | (go_at_call 57; refine (rsizes_calls _ 23 8 _ (.inr ⟨rfl, rfl, rfl⟩)).mono ?_; rintro o w1 ⟨rfl, rfl⟩) | (go_at_call 36; refine (HWd.out _).mono ?_; rintro o w2 ⟨rfl, hb2⟩))
            go_ret2
            exact ⟨rfl, hb2⟩
        · have h1i : (0 : Int) < (e : Int) := by omega
          have hY1 : ¬ (0 : Int) < Y := by omega
          have hY2 : ¬ (-23 : Int) < Y := by omega
          clear hY
          by_cases hV : V = a
          · have hVi : ((V : Int) != (a : Int)) = false := by rw [hV]; simp
            have HF : Hid ((if V = a then some N else none) = some N) := Lib.hid (if_pos hV)
            rw [HF.out]
            clear hV
            go_enter Tryz.func58, Tryz.ntmps58
            go_wp2_with (first | (go_at_call 56; refine (rIsWidth_calls _ _).mono ?_; rintro o w1 ⟨rfl, rfl⟩) | (go_at_call 57; refine (rsizes_calls _ 23 8 _ (.inr ⟨rfl, rfl, rfl⟩)).mono ?_; rintro o w1 ⟨rfl, rfl⟩) | (go_at_call 36; refine (HWd.out _).mono ?_; rintro o w2 ⟨rfl, hb2⟩))
            go_ret2
            exact ⟨rfl, hb2⟩
          · have hVi : ((V : Int) != (a : Int)) = true := by simp; omega
            have HF : Hid ((if V = a then some N else none) = none) := Lib.hid (if_neg hV)
            rw [HF.out]
            clear hV
            go_enter Tryz.func58, Tryz.ntmps58
            go_wp2_with (first | (go_at_call 56; refine (rIsWidth_calls _ _).mono ?_; rintro o w1 ⟨rfl, rfl⟩) | (go_at_call 57; refine (rsizes_calls _ 23 8 _ (.inr ⟨rfl, rfl, rfl⟩)).mono ?_; rintro o w1 ⟨rfl, rfl⟩) | (go_at_call 36; refine (HWd.out _).mono ?_; rintro o w2 ⟨rfl, hb2⟩))
            go_ret2
            exact ⟨rfl, hb2⟩
        · have h1i : (0 : Int) < (e : Int) := by omega
          have hY1 : (0 : Int) < Y := by omega
          have hY2 : ¬ Y < (255 : Int) := by omega
          have hY3 : (-23 : Int) < Y := by omega
          have hY4 : ¬ Y ≤ 0 := by omega
          clear hY
          by_cases hV : V = a
          · have hVi : ((V : Int) != (a : Int)) = false := by rw [hV]; simp
            have HF : Hid ((if V = a then some N else none) = some N) := Lib.hid (if_pos hV)
            rw [HF.out]
            clear hV
            go_enter Tryz.func58, Tryz.ntmps58
            go_wp2_with (first | (go_at_call 56; refine (rIsWidth_calls _ _).mono ?_; rintro o w1 ⟨rfl, rfl⟩) | (go_at_call 57; refine (rsizes_calls _ 23 8 _ (.inr ⟨rfl, rfl, rfl⟩)).mono ?_; rintro o w1 ⟨rfl, rfl⟩) | (go_at_call 36; refine (HWd.out _).mono ?_; rintro o w2 ⟨rfl, hb2⟩))
            go_ret2
            exact ⟨rfl, hb2⟩
          · have hVi : ((V : Int) != (a : Int)) = true := by simp; omega
            have HF : Hid ((if V = a then some N else none) = none) := Lib.hid (if_neg hV)
            rw [HF.out]
            clear hV
            go_enter Tryz.func58, Tryz.ntmps58
            go_wp2_with (first | (go_at_call 56; refine (rIsWidth_calls _ _).mono ?_; rintro o w1 ⟨rfl, rfl⟩) | (go_at_call 57; refine (rsizes_calls _ 23 8 _ (.inr ⟨rfl, rfl, rfl⟩)).mono ?_; rintro o w1 ⟨rfl, rfl⟩) | (go_at_call 36; refine (HWd.out _).mono ?_; rintro o w2 ⟨rfl, hb2⟩))
            go_ret2
            exact ⟨rfl, hb2⟩

set_option maxRecDepth 100000 in
set_option maxHeartbeats 1000000 in
theorem rNarrow_no (a : Nat) (x : Int) (w : World) (hx : isW x = false) : Calls Tryz.prog 58 #[.int .u64 (a : Int), .int .i64 x] w fun o w' => o = .returned (.tuple #[.int .u64 0, .bool false]) ∧ Below w.heap.size w w' := by
  have HX := Lib.hid (fun w => (rIsWidth_calls x w).mono fun o w' (h : _ ∧ _) => (show o = .returned (.bool false) ∧ w = w' from ⟨by rw [h.1, hx], h.2⟩))
  clear hx
  go_enter Tryz.func58, Tryz.ntmps58
  go_wp2_with (go_at_call 56; refine (HX.out _).mono ?_; rintro o w1 ⟨rfl, rfl⟩)
  go_ret2
  exact ⟨rfl, Below.refl _ _⟩
set_option maxRecDepth 100000 in
set_option maxHeartbeats 1000000 in
theorem rNarrow_64 (a : Nat) (w : World) : Calls Tryz.prog 58 #[.int .u64 (a : Int), .int .i64 64] w fun o w' => o = .returned (.tuple #[.int .u64 (a : Int), .bool true]) ∧ Below w.heap.size w w' := by
  go_enter Tryz.func58, Tryz.ntmps58
  go_wp2_with (go_at_call 56; refine (rIsWidth_calls _ _).mono ?_; rintro o w1 ⟨rfl, rfl⟩)
  go_ret2
  exact ⟨rfl, Below.refl _ _⟩
theorem rNarrow_calls (a : Nat) (x : Int) (w : World) (ha : a < 18446744073709551616) : Calls Tryz.prog 58 #[.int .u64 (a : Int), .int .i64 x] w (NarP (narO a x) w) := by
  by_cases h16 : x = 16
  · subst h16; exact rNarrow16 a w ha
  · by_cases h32 : x = 32
    · subst h32; exact rNarrow32 a w ha
    · by_cases h64 : x = 64
      · subst h64
        refine (rNarrow_64 a w).mono ?_
        rintro o w' ⟨rfl, hw⟩
        exact ⟨by rw [narO, if_neg h16, if_neg h32, if_pos rfl]; rfl, hw⟩
      · refine (rNarrow_no a x w (by simp [isW, h16, h32, h64])).mono ?_
        rintro o w' ⟨rfl, hw⟩
        exact ⟨by rw [narO, if_neg h16, if_neg h32, if_neg h64]; rfl, hw⟩
set_option maxRecDepth 100000 in
set_option maxHeartbeats 1000000 in
theorem rLeast_walk (a v1 v2 : Nat) (b1 b2 : Bool) (w : World)
    (h1 : ∀ W, Calls Tryz.prog 58 #[.int .u64 (a : Int), .int .i64 16] W fun o w' => o = .returned (.tuple #[.int .u64 (v1 : Int), .bool b1]) ∧ Below W.heap.size W w')
    (h2 : ∀ W, Calls Tryz.prog 58 #[.int .u64 (a : Int), .int .i64 32] W fun o w' => o = .returned (.tuple #[.int .u64 (v2 : Int), .bool b2]) ∧ Below W.heap.size W w') :
    Calls Tryz.prog 37 #[.int .u64 (a : Int)] w fun o w' => o = .returned (.int .i64 (if b1 = true then 16 else if b2 = true then 32 else 64)) ∧ Below w.heap.size w w' := by
  have H1 := Lib.hid h1
  have H2 := Lib.hid h2
  clear h1 h2
  go_enter Tryz.func37, Tryz.ntmps37
  go_wp2_with fail
  refine (H1.out _).mono ?_
  rintro o w1 ⟨rfl, hb1⟩
  go_wp2_with fail
  refine (H2.out _).mono ?_
  rintro o w2 ⟨rfl, hb2⟩
  have HB := Lib.hid (hb1.trans (hb2.mono hb1.size))
  clear hb1 hb2
  cases b1
  · cases b2
    · go_wp2
      go_ret
      exact ⟨rfl, HB.out⟩
    · go_wp2
      go_ret
      exact ⟨rfl, HB.out⟩
  · go_wp2
    go_ret
    exact ⟨rfl, HB.out⟩
theorem rLeast_calls (a : Nat) (w : World) (ha : a < 18446744073709551616) : Calls Tryz.prog 37 #[.int .u64 (a : Int)] w fun o w' => o = .returned (.int .i64 (leastW a)) ∧ Below w.heap.size w w' := by
  refine (rLeast_walk a _ _ _ _ w (fun W => rNarrow_calls a 16 W ha) (fun W => rNarrow_calls a 32 W ha)).mono ?_
  rintro o w' ⟨rfl, hb⟩
  refine ⟨?_, hb⟩
  have e16 : narO a 16 = if wid16 (nar16 a) = a then some (nar16 a) else none := by rw [narO, if_pos rfl]
  have e32 : narO a 32 = if wid32 (nar32 a) = a then some (nar32 a) else none := by rw [narO, if_neg (by decide), if_pos rfl]
  rw [leastW, e16, e32]
  by_cases h1 : wid16 (nar16 a) = a
  · simp [h1]
  · by_cases h2 : wid32 (nar32 a) = a
    · simp [h1, h2]
    · simp [h1, h2]
end Go.Proofs.YtomociaidccfmaaGreatDoor
