/- The walks of Div and Power. -/
import Derived.Test.YtgcalhnfoakggaaGreatDoorRAll
import Derived.Test.YtgcalhnfoakggaaGreatDoorDivd
import Derived.Test.YtgcalhnfoakggaaGreatDoorScale
import Derived.Test.YtgcalhnfoakggaaGreatDoorTell
namespace Go.Proofs.YtgcalhnfoakggaaGreatDoor
open Go.RowKit

set_option maxRecDepth 100000 in
set_option maxHeartbeats 1000000 in
theorem Div_yes (sa : ByteArray) (d : Nat) (w : World) (ha : isNat sa.data.toList = true) (hd0 : 0 < d) (hd1 : d < 4294967296) (htab : Tab w) :
    Calls Tryz.prog 74 #[.string sa, .int .u32 (d : Int)] w fun e w' => e = .returned (.tuple #[.string ⟨(outS (dv sa.data.toList / d)).toArray⟩, .int .u32 ((dv sa.data.toList % d : Nat) : Int), .int .i64 (outE (dv sa.data.toList / d) : Nat)]) ∧ Below w.heap.size w w' := by
  have HA := Lib.hid ha
  have HT := Lib.hid htab
  have hdz : ((d : Int) == 0) = false := beq_eq_false_iff_ne.2 (by omega)
  clear ha htab
  go_enter Tryz.func74, Tryz.ntmps74
  go_wp2_with (first
    | (go_at_call 72; refine (read_yes _ _ HA.out).mono ?_; rintro e w1 ⟨R1, v1, rfl, hl1, hd1', hn1, hv1, hr1, hb1⟩; have HL1 := Lib.hid hl1; have HV1 := Lib.hid hv1; clear hl1 hv1)
    | (go_at_call 75; refine (divide_calls R1 _ d _ (by omega) hd0 hd1 HL1.out hd1').mono ?_; rintro e w2 ⟨R2, v2, rfl, hl2, hd2, hn2, hv2, hr2, hb2, _⟩; have HL2 := Lib.hid hl2; have HV2 := Lib.hid hv2; have HT2 := Lib.hid ((HT.out.below hb1).below hb2); clear hl2 hv2)
    | (go_at_call 65; refine (tell_calls R2 _ _ (by omega) HL2.out hd2 hn2 HT2.out).mono ?_; rintro e w3 ⟨rfl, hb3⟩))
  go_ret3
  exact ⟨by rw [HV2.out, HV1.out]; rfl, (hb1.trans (hb2.mono hb1.size)).trans (hb3.mono (by have := hb1.size; have := hb2.size; omega))⟩

set_option maxRecDepth 100000 in
set_option maxHeartbeats 1000000 in
theorem Div_no (sa : ByteArray) (d : Nat) (w : World) (h : isNat sa.data.toList = false ∨ d = 0) :
    Calls Tryz.prog 74 #[.string sa, .int .u32 (d : Int)] w fun e w' => e = .returned (.tuple #[.string ⟨#[]⟩, .int .u32 0, .int .i64 10]) ∧ Below w.heap.size w w' := by
  by_cases ha : isNat sa.data.toList = false
  · have HA := Lib.hid ha
    clear ha h
    go_enter Tryz.func74, Tryz.ntmps74
    go_wp2_with (go_at_call 72; refine (read_none _ _ HA.out).mono ?_; rintro e w1 ⟨rfl, hb1⟩)
    go_ret3
    exact ⟨rfl, hb1⟩
  · obtain rfl : d = 0 := by rcases h with h | h; exact absurd h ha; exact h
    have HA := Lib.hid (by simpa using ha : isNat sa.data.toList = true)
    clear ha h
    go_enter Tryz.func74, Tryz.ntmps74
    go_wp2_with (go_at_call 72; refine (read_yes _ _ HA.out).mono ?_; rintro e w1 ⟨R1, v1, rfl, hl1, hd1', hn1, hv1, hr1, hb1⟩; clear hl1 hv1)
    go_ret3
    exact ⟨rfl, hb1⟩

theorem tell_over {a b : Nat} {w w' : World} {e : Ending} (h : TellPost a w e w') (ha : lim ≤ a) (hb : lim ≤ b) : TellPost b w e w' := by
  obtain ⟨he, hw⟩ := h
  refine ⟨?_, hw⟩
  rw [he, outS, outE, outS, outE, if_neg (by omega), if_neg (by omega), if_neg (by omega), if_neg (by omega)]

theorem pow_over {b k n : Nat} (h : lim ≤ b ^ k) (hkn : k ≤ n) : lim ≤ b ^ n := by
  have h1 : 1 < lim := (lim_iff 1).1 (by rw [Lib.nDigits_small (by omega)]; omega)
  by_cases hb : b = 0
  · subst hb
    cases k with
    | zero => rw [Nat.pow_zero] at h; omega
    | succ k => rw [Nat.zero_pow (by omega)] at h; omega
  · exact Nat.le_trans h (Nat.pow_le_pow_right (by omega) hkn)

theorem long_lim {L : List Nat} (nm : Nm L) (h : 45 < L.length) : lim ≤ val L := by
  have := long_digits nm h
  rw [lim_iff] at this
  omega

set_option maxRecDepth 100000 in
set_option maxHeartbeats 1000000 in
theorem Power_no (b : Nat) (x : Int) (w : World) (h : x < 0 ∨ 400 < x) : Calls Tryz.prog 46 #[.int .u32 (b : Int), .int .i64 x] w fun e w' => e = .returned (.tuple #[.string ⟨#[]⟩, .int .i64 10]) ∧ Below w.heap.size w w' := by
  rcases h with h | h
  · go_enter Tryz.func46, Tryz.ntmps46
    go_wp2
    go_ret2
    exact ⟨rfl, Below.refl _ _⟩
  · have h1 : ¬ x < 0 := by omega
    go_enter Tryz.func46, Tryz.ntmps46
    go_wp2
    go_ret2
    exact ⟨rfl, Below.refl _ _⟩

set_option maxRecDepth 100000 in
set_option maxHeartbeats 1000000 in
theorem Power_yes (b n : Nat) (w : World) (hb : b < 4294967296) (hn : n ≤ 400) (htab : Tab w) : Calls Tryz.prog 46 #[.int .u32 (b : Int), .int .i64 (n : Int)] w (TellPost (b ^ n) w) := by
  have HT := Lib.hid htab
  have hd1 : decide ((n : Int) < 0) = false := by simp
  have hd2 : decide ((400 : Int) < (n : Int)) = false := by simp; omega
  clear htab
  go_enter Tryz.func46, Tryz.ntmps46
  go_wp2
  go_loopw [6, 15] (fun v i wr => ∃ (X : List Nat) (k : Nat), i = .int .i64 k ∧ k ≤ n ∧ Lm wr v X ∧ Bd X ∧ Nm X ∧ val X = b ^ k ∧ X.length ≤ 45 ∧ Below w.heap.size w wr)
    (fun _ i _ => n - (intOf i).toNat)
  case atStart =>
    refine ⟨[1], 0, rfl, Nat.zero_le _, .inr ⟨w.heap.size, 0, 1, rfl, Nat.le_refl _, by simp, fun j hj => ?_⟩, fun j => ?_, .inr (by simp [lat]), by simp [val, vt, lat], by simp, (Below.refl _ _).alloc (Nat.le_refl _) _⟩
    · have : j = 0 := by simp at hj; omega
      subst this
      simp [lat]
    · simp only [lat]
      cases j <;> simp
  case round =>
    obtain ⟨X, k, rfl, hk, hl, hbd, hnm, hv, hlen, hnx⟩ := hrel
    obtain ⟨ao, cp, rfl⟩ := hl.shape
    have HL := Lib.hid hl
    have HV := Lib.hid hv
    have HB := Lib.hid hnx
    clear hl hv hnx
    by_cases hlt : k < n
    · go_wp2_with (first
        | (go_at_call 64; refine (scale_calls X _ b 0 _ (by omega) HL.out hbd hb (by omega)).mono ?_; rintro e w2 ⟨R, v2, rfl, hl2, hd2, hn2, hv2, hr2, hb2⟩; obtain ⟨a2, c2, rfl⟩ := hl2.shape; have HL2 := Lib.hid hl2; have HV2 := Lib.hid hv2; have HT2 := Lib.hid ((HT.out.below HB.out).below hb2); clear hl2 hv2)
        | (go_at_call 65; refine (tell_calls R _ _ (by omega) HL2.out hd2 hn2 HT2.out).mono ?_; rintro e w3 ⟨rfl, hb3⟩))
      · go_ret2
        exact tell_over (a := val R) ⟨rfl, (HB.out.trans (hb2.mono HB.out.size)).trans (hb3.mono (by have := HB.out.size; have := hb2.size; omega))⟩ (long_lim hn2 (by omega))
          (pow_over (k := k + 1) (by have := long_lim hn2 (by omega); rw [HV2.out, HV.out, Nat.add_zero, ← Nat.pow_succ] at this; exact this) hlt)
      · go_roundw
        case rel => exact ⟨R, k + 1, by go_num, by omega, HL2.out, hd2, hn2, by rw [HV2.out, HV.out, Nat.add_zero, Nat.pow_succ], by omega, HB.out.trans (hb2.mono HB.out.size)⟩
        case measure => simp [intOf]; omega
    · obtain rfl : k = n := by omega
      have HT2 := Lib.hid (HT.out.below HB.out)
      go_wp2_with (first
        | (go_at_call 65; refine (tell_calls X _ _ (by omega) HL.out hbd hnm HT2.out).mono ?_; rintro e w3 ⟨rfl, hb3⟩))
      go_ret2
      exact ⟨by rw [HV.out]; rfl, HB.out.trans (hb3.mono HB.out.size)⟩
end Go.Proofs.YtgcalhnfoakggaaGreatDoor
