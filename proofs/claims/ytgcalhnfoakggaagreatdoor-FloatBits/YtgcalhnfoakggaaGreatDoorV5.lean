/- The walk of the document's own OfDec. -/
import Derived.Test.YtgcalhnfoakggaaGreatDoorV4
namespace Go.Proofs.YtgcalhnfoakggaaGreatDoor
open Go.RowKit
open Go.Lib (decDigits nDigits)

theorem rdiv_is (a d : Nat) (w : World) (ha : a < lim) (hd0 : 0 < d) (hd1 : d < 4294967296) : Calls Tryz.prog 39 #[.string (decB a), .int .u32 (d : Int)] w fun e w' => e = .returned (.tuple #[.string (decB (a / d)), .int .u32 ((a % d : Nat) : Int), .int .i64 0]) ∧ Below w.heap.size w w' := by
  have := rDiv_yes (decB a) d w (isNat_B ha) hd0 hd1
  rw [dv_B] at this
  exact this
/-- What the loops keep. -/
def L1I (c q : Nat) (n : Bool) (C : ByteArray) (e : Int) (w : World) (v i : Value) (wr : World) : Prop := ∃ k M : Nat, i = .int .i64 k ∧ k ≤ q ∧ v = .string (decB M) ∧ M = c / 5 ^ k ∧ 5 ^ k ∣ c ∧ At wr w.heap.size #[.bool n, .string C, .int .i64 e] 34 ∧ Below w.heap.size w wr
def L2I (o t : Nat) (n : Bool) (C : ByteArray) (e : Int) (w : World) (v x : Value) (wr : World) : Prop := ∃ k M : Nat, ∃ y : Int, v = .string (decB M) ∧ x = .int .i64 y ∧ M = o * 2 ^ k ∧ k ≤ t ∧ y = e + ((t : Int) - k) ∧ At wr w.heap.size #[.bool n, .string C, .int .i64 e] 34 ∧ Below w.heap.size w wr
def L3I (o : Nat) (X : Int) (x m : Value) : Prop := ∃ j M : Nat, ∃ y : Int, x = .int .i64 y ∧ m = .int .u64 (M : Int) ∧ M = o * 2 ^ j ∧ j + o.log2 ≤ 52 ∧ y = X - j
theorem shift_lt {o j : Nat} (h0 : o ≠ 0) (hj : j + o.log2 ≤ 52) : (o * 2 ^ j < 4503599627370496 ↔ j + o.log2 < 52) ∧ o * 2 ^ j < 9007199254740992 ∧ 0 < o * 2 ^ j := by
  have h1 := log2_mul (t := j) h0
  have hne : o * 2 ^ j ≠ 0 := Nat.mul_ne_zero h0 (Nat.ne_of_gt (Nat.pow_pos (by decide)))
  refine ⟨?_, ?_, by omega⟩
  · rw [← e52, ← Nat.log2_lt hne, h1]; omega
  · rw [show (9007199254740992 : Nat) = 2 ^ 53 from by decide, ← Nat.log2_lt hne, h1]; omega

set_option maxRecDepth 100000 in
set_option maxHeartbeats 1000000 in
theorem rOfDec_walk (n : Bool) (c : Nat) (C : ByteArray) (e : Int) (q F o t : Nat) (X : Int) (w : World) (hC : C = decB c) (hc0 : c ≠ 0) (hcl : c < lim) (he1 : -100 ≤ e) (he2 : e ≤ 100) (hq : q = (-e).toNat)
    (hr : rightD n (decDigits c) e = true) (hF : ¬ (e < 0 ∧ c % 5 ^ q ≠ 0) → F = fives c e ∧ F < lim ∧ F = o * 2 ^ t) (ho : o % 2 ≠ 0) (ht : t < 700) (hX : X = e + t) (hX2 : o < 9007199254740992 → -100 ≤ X ∧ X + o.log2 ≤ 900) :
    Calls Tryz.prog 21 #[.agg #[.bool n, .string C, .int .i64 e]] w fun r w' => r = .returned (trV (if e < 0 ∧ c % 5 ^ q ≠ 0 then none else packR n o X)) ∧ Below w.heap.size w w' := by
  have HRt := Lib.hid (fun W => rRight_p n C e W)
  rw [hC, decB_data, hr] at HRt
  rw [← hC] at HRt
  have hn48 : ¬ C.toList = [48] := by rw [Lib.toList_data, hC, decB_data]; exact fun he => hc0 (by have := congrArg dv he; rw [dv_dec] at this; exact this)
  have hn48b : (C.toList == [48]) = false := beq_eq_false_iff_ne.2 hn48
  have ho0 : o ≠ 0 := fun e => by rw [e] at ho; exact ho rfl
  have HF := Lib.hid hF
  have HX2 := Lib.hid hX2
  have HCe := Lib.hid hC
  have Hcl := Lib.hid hcl
  have Hho := Lib.hid ho
  have D0 := Lib.hid (At.new w #[.bool n, .string C, .int .i64 e] 34)
  have B0 := Lib.hid (below_al (Below.refl _ w) (.cells #[.bool n, .string C, .int .i64 e] 34))
  obtain ⟨RR, hRR⟩ : ∃ RR, RR = (if e < 0 ∧ c % 5 ^ q ≠ 0 then none else packR n o X) := ⟨_, rfl⟩
  rw [← hRR]
  have HRR := Lib.hid hRR
  have hq100 : q ≤ 100 := by omega
  have HQ := Lib.hid hq
  have HXh := Lib.hid hX
  clear hF hX2 hC hcl hr hRR ho hq hX
  go_enter Tryz.func21, Tryz.ntmps21
  go_wp2_with fail
  refine (HRt.out _).mono ?_
  rintro r w1 ⟨rfl, hb1⟩
  have D1 := Lib.hid (D0.out.below hb1)
  have B1 := Lib.hid (below_next B0.out hb1)
  clear hb1 D0 B0
  have c0 := D1.out.c 0 rfl
  have c1 := D1.out.c 1 rfl
  have c2 := D1.out.c 2 rfl
  go_wp2
  go_loopw [4, 6] (fun v i wr => L1I c q n C e w v i wr) (fun _ i _ => q - (intOf i).toNat)
  case atStart => exact ⟨0, c, rfl, Nat.zero_le _, by rw [HCe.out], by simp, by simp, D1.out, B1.out⟩
  case round =>
    obtain ⟨k, M, rfl, hk, rfl, hM, hdv, hD, hB⟩ := hrel
    have hml : M < lim := by rw [hM]; exact Nat.lt_of_le_of_lt (Nat.div_le_self _ _) Hcl.out
    have HB := Lib.hid hB
    have HD := Lib.hid hD
    have HM := Lib.hid hM
    have HDv := Lib.hid hdv
    have HDi := Lib.hid (fun W => rdiv_is M 5 W hml (by decide) (by decide))
    clear hB hD hM hdv hml c0 c1 c2
    have c0 := HD.out.c 0 rfl
    have c2 := HD.out.c 2 rfl
    by_cases hlt : k < q
    · have dk : decide ((k : Int) < -e) = true := by have := HQ.out; simp; omega
      obtain ⟨r, hrr⟩ : ∃ r, r = M % 5 := ⟨_, rfl⟩
      rw [← hrr] at HDi
      by_cases h0 : r = 0
      · have HN := Lib.hid ((five_step HDv.out).1 (by rw [← HM.out]; omega))
        have hri : ((r : Int) != 0) = false := by rw [h0]; rfl
        clear hrr h0
        go_wp2_with (go_at_call 39; refine (HDi.out _).mono ?_; rintro r w2 ⟨rfl, hb2⟩)
        go_roundw
        case rel => exact ⟨k + 1, M / 5, by go_num, by omega, rfl, by rw [HM.out, Nat.div_div_eq_div_mul, Nat.pow_succ], HN.out, HD.out.below hb2, below_next HB.out hb2⟩
        case measure => simp [intOf]; omega
      · have hb0 : ((r : Int) != 0) = true := by simpa using h0
        have HN := Lib.hid (show RR = none by
          rw [HRR.out, if_pos]
          refine ⟨by have := HQ.out; omega, fun h => h0 ?_⟩
          rw [hrr, HM.out]
          exact (five_step HDv.out).2 (Nat.dvd_trans (Nat.pow_dvd_pow 5 (by omega)) (Nat.dvd_of_mod_eq_zero h)))
        clear hrr
        go_wp2_with (go_at_call 39; refine (HDi.out _).mono ?_; rintro r w2 ⟨rfl, hb2⟩)
        go_ret2
        exact ⟨by rw [HN.out]; rfl, below_next HB.out hb2⟩
    · obtain rfl : k = q := by omega
      have dk : decide ((k : Int) < -e) = false := by have := HQ.out; simp; omega
      have dk2 : ¬ (k : Int) < -e := by have := HQ.out; omega
      have hok : ¬ (e < 0 ∧ c % 5 ^ k ≠ 0) := fun h => h.2 (Nat.mod_eq_zero_of_dvd HDv.out)
      obtain ⟨hFf, hFl, hFo⟩ := HF.out hok
      have HR2 := Lib.hid (show RR = packR n o X by rw [HRR.out, if_neg hok])
      have HFo := Lib.hid hFo
      have HFl := Lib.hid hFl
      by_cases hep : 0 < e
      · have de : decide ((0 : Int) < e) = true := by simpa using hep
        have hMc : M = c := by rw [HM.out, show k = 0 from by have := HQ.out; omega]; simp
        obtain ⟨p, hp⟩ : ∃ p : Nat, e = (p : Int) := ⟨e.toNat, by omega⟩
        have hFp : F = c * 5 ^ p := by rw [hFf, fives, if_neg (by omega), show e.toNat = p from by omega]
        have HTm := Lib.hid (fun W => rtimes_calls c 5 p ⟨#[53]⟩ W decB_5 (by decide) (by decide) Hcl.out (by omega))
        rw [show tmB c 5 p = decB F from by rw [tmB, if_pos (by rw [← hFp]; exact hFl), ← hFp], ← hMc, ← hp] at HTm
        clear hFf hFl hFo hok hFp hp HF HRR hMc
        go_wp2_with fail
        refine (HTm.out _).mono ?_
        rintro r w2 ⟨rfl, hb2⟩
        have HD2 := Lib.hid (HD.out.below hb2)
        have HB2 := Lib.hid (below_next HB.out hb2)
        clear hb2 c0 c2
        go_wp2
        go_loopw [4, 5] (fun v x wr => L2I o t n C e w v x wr) (fun _ x _ => (X - intOf x).toNat)
        case atStart => exact ⟨t, F, e, rfl, rfl, HFo.out, Nat.le_refl _, by omega, HD2.out, HB2.out⟩
        case round =>
          obtain ⟨k2, M2, y, rfl, rfl, hM2, hk2, hy, hD3, hB3⟩ := hrel
          have hM2l : M2 < lim := by
            refine Nat.lt_of_le_of_lt ?_ HFl.out
            rw [hM2, HFo.out]
            exact Nat.mul_le_mul_left _ (Nat.pow_le_pow_right (by decide) hk2)
          have HDj := Lib.hid (fun W => rdiv_is M2 2 W hM2l (by decide) (by decide))
          obtain ⟨ev1, ev2⟩ := even_step (o := o) (k := k2) Hho.out
          rw [← hM2] at ev1 ev2
          have HY := Lib.hid hy
          have HD3 := Lib.hid hD3
          have HB3 := Lib.hid hB3
          have hyb1 : -200 ≤ y := by omega
          have hyb2 : y ≤ 1000 := by omega
          obtain ⟨r2, hr2⟩ : ∃ r2, r2 = M2 % 2 := ⟨_, rfl⟩
          rw [← hr2] at HDj
          clear hD3 hB3
          by_cases hk0 : 0 < k2
          · have hri2 : ((r2 : Int) != 0) = false := by have := ev1.2 hk0; simp; omega
            have HE2 := Lib.hid (ev2 hk0)
            clear hM2 hM2l ev1 ev2 hr2 hy
            go_wp2_with (go_at_call 39; refine (HDj.out _).mono ?_; rintro r w4 ⟨rfl, hb4⟩)
            go_roundw
            case rel => exact ⟨k2 - 1, M2 / 2, y + 1, rfl, rfl, HE2.out, by omega, by rw [HY.out]; omega, HD3.out.below hb4, below_next HB3.out hb4⟩
            case measure => have := HY.out; have := HXh.out; simp [intOf]; omega
          · obtain rfl : k2 = 0 := by omega
            obtain rfl : M2 = o := by rw [hM2]; simp
            obtain rfl : y = X := by rw [hy, HXh.out]; omega
            have hri2 : ((r2 : Int) != 0) = true := by have := Hho.out; simp; omega
            have hol := hM2l
            clear hM2 hM2l ev1 ev2 hr2 hy
            by_cases hbig : 18446744073709551616 ≤ M2
            · have HTo := Lib.hid (fun W => rTo_big (decB M2) W (isNat_B hol) (by rw [dv_B]; exact hbig))
              have HN := Lib.hid (show RR = none by rw [HR2.out, packR, if_pos (by omega)])
              go_wp2_with (first
                | (go_at_call 39; refine (HDj.out _).mono ?_; rintro r w4 ⟨rfl, hb4⟩)
                | (go_at_call 40; refine (HTo.out _).mono ?_; rintro r w5 ⟨rfl, hb5⟩))
              go_ret2
              exact ⟨by rw [HN.out]; rfl, below_next (below_next HB3.out hb4) hb5⟩
            · have HTo := Lib.hid (fun W => rTo_yes (decB M2) W (isNat_B hol) (by rw [dv_B]; omega))
              rw [dv_B] at HTo
              by_cases h53 : 9007199254740992 ≤ M2
              · have HN := Lib.hid (show RR = none by rw [HR2.out, packR, if_pos h53])
                have d53 : decide ((9007199254740992 : Int) ≤ (M2 : Int)) = true := by simp; omega
                have d53b : decide (9007199254740992 ≤ M2) = true := by simpa using h53
                go_wp2_with (first
                  | (go_at_call 39; refine (HDj.out _).mono ?_; rintro r w4 ⟨rfl, hb4⟩)
                  | (go_at_call 40; refine (HTo.out _).mono ?_; rintro r w5 ⟨rfl, hb5⟩))
                go_ret2
                exact ⟨by rw [HN.out]; rfl, below_next (below_next HB3.out hb4) hb5⟩
              · have HN := Lib.hid (show RR = some (packB n M2 y) by rw [HR2.out, packR, if_neg h53])
                have d53 : decide ((9007199254740992 : Int) ≤ (M2 : Int)) = false := by simp; omega
                have d53b : decide (9007199254740992 ≤ M2) = false := by simpa using h53
                obtain ⟨hx1, hx2⟩ := HX2.out (by omega)
                have hlg : M2.log2 ≤ 52 := by
                  have := (Nat.log2_lt ho0).2 (show M2 < 2 ^ 53 by rw [show (2 : Nat) ^ 53 = 9007199254740992 from by decide]; omega)
                  omega
                go_wp2_with (first
                  | (go_at_call 39; refine (HDj.out _).mono ?_; rintro r w4 ⟨rfl, hb4⟩)
                  | (go_at_call 40; refine (HTo.out _).mono ?_; rintro r w5 ⟨rfl, hb5⟩))
                have HD5 := Lib.hid ((HD3.out.below hb4).below hb5)
                have HB5 := Lib.hid (below_next (below_next HB3.out hb4) hb5)
                clear hb4 hb5
                go_loop [5, 13] (fun x m => L3I M2 y x m) (fun _ m => (9007199254740992 - intOf m).toNat)
                case atStart => exact ⟨0, M2, y, rfl, rfl, by simp, by omega, by omega⟩
                case round =>
                  obtain ⟨j, N, z, rfl, rfl, hNo, hj, hz⟩ := hrel
                  obtain ⟨s1, s2, s3⟩ := shift_lt ho0 hj
                  rw [← hNo] at s1 s2 s3
                  have hzb1 : -1000 ≤ z := by omega
                  have hzb2 : z ≤ 1000 := by omega
                  by_cases hj2 : j + M2.log2 < 52
                  · have hN2 := s1.2 hj2
                    have dN2 : decide ((N : Int) < 4503599627370496) = true := by simp; omega
                    have dN3 : decide (N < 4503599627370496) = true := by simpa using hN2
                    obtain ⟨N2, hN2e⟩ : ∃ N2, N2 = 2 * N := ⟨_, rfl⟩
                    have hN2i : 2 * (N : Int) = (N2 : Int) := by omega
                    have HE := Lib.hid (show N2 = M2 * 2 ^ (j + 1) by rw [hN2e, hNo, Nat.pow_succ, Nat.mul_comm 2, Nat.mul_assoc])
                    have HZ := Lib.hid hz
                    have Hgt := Lib.hid (show N < N2 by omega)
                    clear hNo hz s1 hN2e
                    go_wp2
                    go_round
                    case rel => exact ⟨j + 1, N2, z - 1, rfl, rfl, HE.out, by omega, by rw [HZ.out]; omega⟩
                    case measure => have := Hgt.out; simp [intOf]; omega
                  · have hN2 : ¬ N < 4503599627370496 := fun h => hj2 (s1.1 h)
                    have dN2 : decide ((N : Int) < 4503599627370496) = false := by simp; omega
                    have dN3 : decide (N < 4503599627370496) = false := by simpa using hN2
                    have hje : j = 52 - M2.log2 := by omega
                    obtain ⟨Eb, hEb⟩ : ∃ Eb : Nat, z + 52 + 1023 = (Eb : Int) := ⟨(z + 52 + 1023).toNat, by omega⟩
                    obtain ⟨fr, hfr⟩ : ∃ fr, fr = N % 4503599627370496 := ⟨_, rfl⟩
                    have hand : bits .and .u64 (N : Int) 4503599627370495 = (fr : Int) := by rw [hfr]; exact and_64 N 52 4503599627370495 (by decide) (by decide) (by omega) _ _ rfl rfl
                    obtain ⟨S1, hS1⟩ : ∃ S1, S1 = Eb * 4503599627370496 := ⟨_, rfl⟩
                    have hEb2 : Eb < 2048 := by omega
                    have hsh : (Eb : Int) * 4503599627370496 = (S1 : Int) := by omega
                    obtain ⟨out, hout⟩ : ∃ out, out = S1 + fr := ⟨_, rfl⟩
                    have hor : bits .or .u64 (S1 : Int) (fr : Int) = (out : Int) := by rw [hout]; exact or_64 S1 fr 52 (by omega) (by omega) (by omega) _ _ rfl rfl
                    obtain ⟨out2, hout2⟩ : ∃ out2, out2 = out + 9223372036854775808 := ⟨_, rfl⟩
                    have hor2 : bits .or .u64 (out : Int) 9223372036854775808 = (out2 : Int) := by rw [hout2]; exact or_64r 9223372036854775808 out 63 (by omega) (by decide) (by omega)
                    have HPk := Lib.hid (show packB n M2 y = if n = true then out2 else out by
                      have h1 : (y + (M2.log2 : Int) + 1023).toNat = Eb := by omega
                      unfold packB
                      rw [h1, ← hje, ← hNo]
                      cases n
                      · simp only [Bool.false_eq_true, if_false]; omega
                      · simp only [if_true]; omega)
                    have hS1l : S1 < 9223372036854775808 := by omega
                    have c0 := HD5.out.c 0 rfl
                    clear hNo hz s1 hfr hS1 hout hout2 hje
                    cases n
                    all_goals
                      go_wp2
                      go_ret2
                      refine ⟨?_, HB5.out⟩
                      rw [HN.out, HPk.out]
                      rfl
      · have de : decide ((0 : Int) < e) = false := by simpa using hep
        have hMF : M = F := by
          rw [hFf, fives]
          split
          · rw [HM.out, HQ.out]
          · rw [HM.out, show k = 0 from by have := HQ.out; omega, show e.toNat = 0 from by omega]; simp
        have HD2 := HD
        have HB2 := HB
        clear hFf hFl hFo hok HF HRR c0
        subst hMF
        go_wp2
        go_loopw [4, 5] (fun v x wr => L2I o t n C e w v x wr) (fun _ x _ => (X - intOf x).toNat)
        case atStart => exact ⟨t, M, e, rfl, rfl, HFo.out, Nat.le_refl _, by omega, HD2.out, HB2.out⟩
        case round =>
          obtain ⟨k2, M2, y, rfl, rfl, hM2, hk2, hy, hD3, hB3⟩ := hrel
          have hM2l : M2 < lim := by
            refine Nat.lt_of_le_of_lt ?_ HFl.out
            rw [hM2, HFo.out]
            exact Nat.mul_le_mul_left _ (Nat.pow_le_pow_right (by decide) hk2)
          have HDj := Lib.hid (fun W => rdiv_is M2 2 W hM2l (by decide) (by decide))
          obtain ⟨ev1, ev2⟩ := even_step (o := o) (k := k2) Hho.out
          rw [← hM2] at ev1 ev2
          have HY := Lib.hid hy
          have HD3 := Lib.hid hD3
          have HB3 := Lib.hid hB3
          have hyb1 : -200 ≤ y := by omega
          have hyb2 : y ≤ 1000 := by omega
          obtain ⟨r2, hr2⟩ : ∃ r2, r2 = M2 % 2 := ⟨_, rfl⟩
          rw [← hr2] at HDj
          clear hD3 hB3
          by_cases hk0 : 0 < k2
          · have hri2 : ((r2 : Int) != 0) = false := by have := ev1.2 hk0; simp; omega
            have HE2 := Lib.hid (ev2 hk0)
            clear hM2 hM2l ev1 ev2 hr2 hy
            go_wp2_with (go_at_call 39; refine (HDj.out _).mono ?_; rintro r w4 ⟨rfl, hb4⟩)
            go_roundw
            case rel => exact ⟨k2 - 1, M2 / 2, y + 1, rfl, rfl, HE2.out, by omega, by rw [HY.out]; omega, HD3.out.below hb4, below_next HB3.out hb4⟩
            case measure => have := HY.out; have := HXh.out; simp [intOf]; omega
          · obtain rfl : k2 = 0 := by omega
            obtain rfl : M2 = o := by rw [hM2]; simp
            obtain rfl : y = X := by rw [hy, HXh.out]; omega
            have hri2 : ((r2 : Int) != 0) = true := by have := Hho.out; simp; omega
            have hol := hM2l
            clear hM2 hM2l ev1 ev2 hr2 hy
            by_cases hbig : 18446744073709551616 ≤ M2
            · have HTo := Lib.hid (fun W => rTo_big (decB M2) W (isNat_B hol) (by rw [dv_B]; exact hbig))
              have HN := Lib.hid (show RR = none by rw [HR2.out, packR, if_pos (by omega)])
              go_wp2_with (first
                | (go_at_call 39; refine (HDj.out _).mono ?_; rintro r w4 ⟨rfl, hb4⟩)
                | (go_at_call 40; refine (HTo.out _).mono ?_; rintro r w5 ⟨rfl, hb5⟩))
              go_ret2
              exact ⟨by rw [HN.out]; rfl, below_next (below_next HB3.out hb4) hb5⟩
            · have HTo := Lib.hid (fun W => rTo_yes (decB M2) W (isNat_B hol) (by rw [dv_B]; omega))
              rw [dv_B] at HTo
              by_cases h53 : 9007199254740992 ≤ M2
              · have HN := Lib.hid (show RR = none by rw [HR2.out, packR, if_pos h53])
                have d53 : decide ((9007199254740992 : Int) ≤ (M2 : Int)) = true := by simp; omega
                have d53b : decide (9007199254740992 ≤ M2) = true := by simpa using h53
                go_wp2_with (first
                  | (go_at_call 39; refine (HDj.out _).mono ?_; rintro r w4 ⟨rfl, hb4⟩)
                  | (go_at_call 40; refine (HTo.out _).mono ?_; rintro r w5 ⟨rfl, hb5⟩))
                go_ret2
                exact ⟨by rw [HN.out]; rfl, below_next (below_next HB3.out hb4) hb5⟩
              · have HN := Lib.hid (show RR = some (packB n M2 y) by rw [HR2.out, packR, if_neg h53])
                have d53 : decide ((9007199254740992 : Int) ≤ (M2 : Int)) = false := by simp; omega
                have d53b : decide (9007199254740992 ≤ M2) = false := by simpa using h53
                obtain ⟨hx1, hx2⟩ := HX2.out (by omega)
                have hlg : M2.log2 ≤ 52 := by
                  have := (Nat.log2_lt ho0).2 (show M2 < 2 ^ 53 by rw [show (2 : Nat) ^ 53 = 9007199254740992 from by decide]; omega)
                  omega
                go_wp2_with (first
                  | (go_at_call 39; refine (HDj.out _).mono ?_; rintro r w4 ⟨rfl, hb4⟩)
                  | (go_at_call 40; refine (HTo.out _).mono ?_; rintro r w5 ⟨rfl, hb5⟩))
                have HD5 := Lib.hid ((HD3.out.below hb4).below hb5)
                have HB5 := Lib.hid (below_next (below_next HB3.out hb4) hb5)
                clear hb4 hb5
                go_loop [5, 13] (fun x m => L3I M2 y x m) (fun _ m => (9007199254740992 - intOf m).toNat)
                case atStart => exact ⟨0, M2, y, rfl, rfl, by simp, by omega, by omega⟩
                case round =>
                  obtain ⟨j, N, z, rfl, rfl, hNo, hj, hz⟩ := hrel
                  obtain ⟨s1, s2, s3⟩ := shift_lt ho0 hj
                  rw [← hNo] at s1 s2 s3
                  have hzb1 : -1000 ≤ z := by omega
                  have hzb2 : z ≤ 1000 := by omega
                  by_cases hj2 : j + M2.log2 < 52
                  · have hN2 := s1.2 hj2
                    have dN2 : decide ((N : Int) < 4503599627370496) = true := by simp; omega
                    have dN3 : decide (N < 4503599627370496) = true := by simpa using hN2
                    obtain ⟨N2, hN2e⟩ : ∃ N2, N2 = 2 * N := ⟨_, rfl⟩
                    have hN2i : 2 * (N : Int) = (N2 : Int) := by omega
                    have HE := Lib.hid (show N2 = M2 * 2 ^ (j + 1) by rw [hN2e, hNo, Nat.pow_succ, Nat.mul_comm 2, Nat.mul_assoc])
                    have HZ := Lib.hid hz
                    have Hgt := Lib.hid (show N < N2 by omega)
                    clear hNo hz s1 hN2e
                    go_wp2
                    go_round
                    case rel => exact ⟨j + 1, N2, z - 1, rfl, rfl, HE.out, by omega, by rw [HZ.out]; omega⟩
                    case measure => have := Hgt.out; simp [intOf]; omega
                  · have hN2 : ¬ N < 4503599627370496 := fun h => hj2 (s1.1 h)
                    have dN2 : decide ((N : Int) < 4503599627370496) = false := by simp; omega
                    have dN3 : decide (N < 4503599627370496) = false := by simpa using hN2
                    have hje : j = 52 - M2.log2 := by omega
                    obtain ⟨Eb, hEb⟩ : ∃ Eb : Nat, z + 52 + 1023 = (Eb : Int) := ⟨(z + 52 + 1023).toNat, by omega⟩
                    obtain ⟨fr, hfr⟩ : ∃ fr, fr = N % 4503599627370496 := ⟨_, rfl⟩
                    have hand : bits .and .u64 (N : Int) 4503599627370495 = (fr : Int) := by rw [hfr]; exact and_64 N 52 4503599627370495 (by decide) (by decide) (by omega) _ _ rfl rfl
                    obtain ⟨S1, hS1⟩ : ∃ S1, S1 = Eb * 4503599627370496 := ⟨_, rfl⟩
                    have hEb2 : Eb < 2048 := by omega
                    have hsh : (Eb : Int) * 4503599627370496 = (S1 : Int) := by omega
                    obtain ⟨out, hout⟩ : ∃ out, out = S1 + fr := ⟨_, rfl⟩
                    have hor : bits .or .u64 (S1 : Int) (fr : Int) = (out : Int) := by rw [hout]; exact or_64 S1 fr 52 (by omega) (by omega) (by omega) _ _ rfl rfl
                    obtain ⟨out2, hout2⟩ : ∃ out2, out2 = out + 9223372036854775808 := ⟨_, rfl⟩
                    have hor2 : bits .or .u64 (out : Int) 9223372036854775808 = (out2 : Int) := by rw [hout2]; exact or_64r 9223372036854775808 out 63 (by omega) (by decide) (by omega)
                    have HPk := Lib.hid (show packB n M2 y = if n = true then out2 else out by
                      have h1 : (y + (M2.log2 : Int) + 1023).toNat = Eb := by omega
                      unfold packB
                      rw [h1, ← hje, ← hNo]
                      cases n
                      · simp only [Bool.false_eq_true, if_false]; omega
                      · simp only [if_true]; omega)
                    have hS1l : S1 < 9223372036854775808 := by omega
                    have c0 := HD5.out.c 0 rfl
                    clear hNo hz s1 hfr hS1 hout hout2 hje
                    cases n
                    all_goals
                      go_wp2
                      go_ret2
                      refine ⟨?_, HB5.out⟩
                      rw [HN.out, HPk.out]
                      rfl
end Go.Proofs.YtgcalhnfoakggaaGreatDoor
