/- The walks of the document's own times, ToDec. The walk of the document's own OfDec. -/
import Derived.Test.YtgcalhnfoakggaaGreatDoorV3
import Derived.Test.YtgcalhnfoakggaaGreatDoorPr
import Derived.Test.YtgcalhnfoakggaaGreatDoorHK

namespace Go.Proofs.YtgcalhnfoakggaaGreatDoor
open Go.RowKit
open Go.Lib (decDigits nDigits)

/-- A number multiplied so many times; nothing, if that is too long. -/
def tmB (m b n : Nat) : ByteArray := if m * b ^ n < lim then decB (m * b ^ n) else ⟨#[]⟩
def TmI (m b n : Nat) (w : World) (v i : Value) (wr : World) : Prop := ∃ k M : Nat, i = .int .i64 k ∧ k ≤ n ∧ v = .string (decB M) ∧ M = m * b ^ k ∧ M < lim ∧ Below w.heap.size w wr

theorem rmul_fits (M b : Nat) (w : World) (hM : M < lim) (hb : b < lim) (h : M * b < lim) : Calls Tryz.prog 50 #[.string (decB M), .string (decB b)] w fun e w' => e = .returned (.tuple #[.string (decB (M * b)), .int .i64 0]) ∧ Below w.heap.size w w' := by
  refine (rMul_yes (decB M) (decB b) w (isNat_B hM) (isNat_B hb)).mono ?_
  rintro e w' ⟨rfl, hw⟩
  rw [dv_B, dv_B, (outB h).1, (outB h).2]
  exact ⟨rfl, hw⟩
theorem rmul_over (M b : Nat) (w : World) (hM : M < lim) (hb : b < lim) (h : ¬ M * b < lim) : Calls Tryz.prog 50 #[.string (decB M), .string (decB b)] w fun e w' => e = .returned (.tuple #[.string ⟨#[]⟩, .int .i64 11]) ∧ Below w.heap.size w w' := by
  refine (rMul_yes (decB M) (decB b) w (isNat_B hM) (isNat_B hb)).mono ?_
  rintro e w' ⟨rfl, hw⟩
  rw [dv_B, dv_B, outS_long h, outE_long h]
  exact ⟨rfl, hw⟩

set_option maxRecDepth 100000 in
set_option maxHeartbeats 400000 in
theorem rtimes_calls (m b n : Nat) (B : ByteArray) (w : World) (hB : B = decB b) (hb1 : 1 ≤ b) (hb2 : b < 10) (hm : m < lim) (hn : n ≤ 2000) :
    Calls Tryz.prog 32 #[.string (decB m), .string B, .int .i64 (n : Int)] w fun o w' => o = .returned (.string (tmB m b n)) ∧ Below w.heap.size w w' := by
  have hbl : b < lim := u64_lim (by omega)
  have HBl := Lib.hid hbl
  have HBe := Lib.hid hB
  have Hm := Lib.hid hm
  clear hbl hB hm
  go_enter Tryz.func32, Tryz.ntmps32
  go_wp2
  go_loopw [0, 7] (fun v i wr => TmI m b n w v i wr) (fun _ i _ => n - (intOf i).toNat)
  case atStart => exact ⟨0, m, rfl, Nat.zero_le _, rfl, by simp, Hm.out, Below.refl _ _⟩
  case round =>
    obtain ⟨k, M, rfl, hk, rfl, hM, hMl, hB⟩ := hrel
    have HB := Lib.hid hB
    have HM := Lib.hid hM
    have HMl := Lib.hid hMl
    clear hB hM hMl
    by_cases hlt : k < n
    · by_cases hfit : M * b < lim
      · have HF := Lib.hid (fun W => rmul_fits M b W HMl.out HBl.out hfit)
        rw [← HBe.out] at HF
        have Hfit := Lib.hid hfit
        clear hfit
        obtain ⟨M2, hM2⟩ : ∃ M2, M2 = M * b := ⟨_, rfl⟩
        rw [← hM2] at HF Hfit
        have HM2 := Lib.hid hM2
        clear hM2
        go_wp2_with (go_at_call 50; refine (HF.out _).mono ?_; rintro o w1 ⟨rfl, hb1⟩)
        go_roundw
        case rel => exact ⟨k + 1, M2, by go_num, by omega, rfl, by rw [HM2.out, HM.out, Nat.pow_succ, Nat.mul_assoc], Hfit.out, below_next HB.out hb1⟩
        case measure => simp [intOf]; omega
      · have HF := Lib.hid (fun W => rmul_over M b W HMl.out HBl.out hfit)
        rw [← HBe.out] at HF
        have HO := Lib.hid (show tmB m b n = ⟨#[]⟩ by
          rw [tmB, if_neg]
          intro h
          apply hfit
          refine Nat.lt_of_le_of_lt ?_ h
          rw [HM.out, Nat.mul_assoc, ← Nat.pow_succ]
          exact Nat.mul_le_mul_left _ (Nat.pow_le_pow_right hb1 hlt))
        clear hfit
        go_wp2_with (go_at_call 50; refine (HF.out _).mono ?_; rintro o w1 ⟨rfl, hb1⟩)
        go_ret
        exact ⟨by rw [HO.out]; rfl, below_next HB.out hb1⟩
    · obtain rfl : k = n := by omega
      have HO := Lib.hid (show tmB m b k = decB M by rw [tmB, if_pos (by rw [← HM.out]; exact HMl.out), ← HM.out])
      go_wp2
      go_ret
      exact ⟨by rw [HO.out]; rfl, HB.out⟩

theorem or_64r (h l k : Nat) (hl : l < 2 ^ k) (hh : h % 2 ^ k = 0) (h1 : h + l < 18446744073709551616) : bits .or .u64 (l : Int) (h : Int) = ((l + h : Nat) : Int) := by
  rw [bits_or_u64_nat l h (by omega) (by omega), Nat.or_comm, Nat.add_comm]
  obtain ⟨q, rfl⟩ : ∃ q, h = 2 ^ k * q := ⟨h / 2 ^ k, by rw [Nat.mul_div_cancel' (Nat.dvd_of_mod_eq_zero hh)]⟩
  rw [Nat.two_pow_add_eq_or_of_lt hl]
theorem far_five2 {n : Bool} {o p : Nat} {x : Int} (ho : o % 2 ≠ 0) (hx : x < -100) : makeR n (decDigits (o * 5 ^ p)) x = none := by
  cases h : makeR n (decDigits (o * 5 ^ p)) x with
  | none => rfl
  | some r =>
    exfalso
    have h1 := odd5 o p ho
    obtain ⟨_, _, hk, _⟩ := make_num (N := o * 5 ^ p) (c := o * 5 ^ p) (k := 0) (by simp) (by omega) h
    omega
theorem ne_nil {s : ByteArray} (h : 0 < s.size) : (s.toList == []) = false ∧ s.toList.isEmpty = false ∧ ¬ s.toList = [] := by
  have h1 : ¬ s.toList = [] := by
    intro e
    rw [Lib.toList_data] at e
    rw [Lib.size_eq, e] at h
    exact absurd h (by decide)
  exact ⟨beq_eq_false_iff_ne.2 h1, by simpa using h1, h1⟩
theorem decB_some (n : Nat) : 0 < (decB n).size := by
  rw [Lib.size_eq, decB_data]
  cases h : decDigits n with
  | nil => exact absurd h (dec_ne n)
  | cons => simp
theorem decB_2 : (⟨#[50]⟩ : ByteArray) = decB 2 := str_inj (by rw [decB_data, Lib.decDigits_one (by omega)]; rfl)
theorem decB_5 : (⟨#[53]⟩ : ByteArray) = decB 5 := str_inj (by rw [decB_data, Lib.decDigits_one (by omega)]; rfl)
theorem empty_of {s : ByteArray} (h : ¬ 0 < s.size) : s = ⟨#[]⟩ := str_inj (by
  have h1 : s.data.toList.length = 0 := by rw [← Lib.size_eq]; omega
  exact List.eq_nil_of_length_eq_zero h1)
def FlI (o t : Nat) (X : Int) (f e : Value) : Prop := ∃ k m : Nat, ∃ x : Int, f = .int .u64 (m : Int) ∧ e = .int .i64 x ∧ m = o * 2 ^ k ∧ k ≤ t ∧ x = X + ((t : Int) - k)
theorem even_step {o k : Nat} (ho : o % 2 ≠ 0) : (o * 2 ^ k % 2 = 0 ↔ 0 < k) ∧ (0 < k → o * 2 ^ k / 2 = o * 2 ^ (k - 1)) := by
  cases k with
  | zero => simp; omega
  | succ k =>
    refine ⟨⟨fun _ => by omega, fun _ => by rw [Nat.pow_succ, ← Nat.mul_assoc]; exact Nat.mul_mod_left _ _⟩, fun _ => ?_⟩
    rw [Nat.pow_succ, ← Nat.mul_assoc, Nat.mul_div_cancel _ (by decide), Nat.add_sub_cancel]

set_option maxRecDepth 100000 in
set_option maxHeartbeats 1000000 in
theorem rToDec_walk (a M o t : Nat) (X : Int) (S : ByteArray) (sg : Bool) (R : Option (Bool × Nat × Int)) (w : World) (ha : a < 18446744073709551616)
    (hM : M = mantN a) (hMo : M = o * 2 ^ t) (ho : o % 2 ≠ 0) (ht : t < 64) (hX : X = exN a + t) (hX1 : -1100 ≤ X) (hX2 : X ≤ 1100) (hfin : isFin a = true)
    (hsg : ((a : Int) / 9223372036854775808 == 1) = sg)
    (hc : (X = 0 ∧ S = decB o) ∨ (∃ q p : Nat, 0 < q ∧ X = (q : Int) ∧ p = min q 700 ∧ S = tmB o 2 p ∧ 0 < S.size) ∨ (∃ q p : Nat, 0 < q ∧ X = -(q : Int) ∧ p = min q 700 ∧ S = tmB o 5 p))
    (hR : (0 < S.size ∧ -1000 ≤ X → ∀ W, Calls Tryz.prog 33 #[.bool sg, .string S, .int .i64 (if X < 0 then X else 0)] W (DecP R W)) ∧ (¬ (0 < S.size ∧ -1000 ≤ X) → R = none)) :
    Calls Tryz.prog 19 #[.int .u64 (a : Int)] w fun r w' => r = .returned (.tuple #[.agg #[.bool (dN R), .string (dS R), .int .i64 (dX R)], .int .i64 (decE R)]) ∧ Below w.heap.size w w' := by
  have HMo := Lib.hid hMo
  have HMk := Lib.hid hR.1
  have HNn := Lib.hid hR.2
  have HI := Lib.hid (fun W => rIsFinite_calls a W ha)
  rw [hfin] at HI
  have ho0 : o ≠ 0 := fun e => by rw [e] at ho; exact ho rfl
  have hoM : o ≤ M := by rw [hMo]; exact Nat.le_mul_of_pos_right _ (Nat.pow_pos (by decide))
  have hM53 : M < 9007199254740992 := by rw [hM]; have := mant_lt a; rw [show (2 : Nat) ^ 53 = 9007199254740992 from by decide] at this; exact this
  have HO := Lib.hid (fun W => rOf_calls o W (by omega))
  have HOl := Lib.hid (u64_lim (show o < 18446744073709551616 by omega))
  obtain ⟨e0, he0⟩ : ∃ e0, e0 = a / 4503599627370496 % 2048 := ⟨_, rfl⟩
  obtain ⟨f0, hf0⟩ : ∃ f0, f0 = a % 4503599627370496 := ⟨_, rfl⟩
  have a1 : bits .and .u64 ((a : Int) / 4503599627370496) 2047 = (e0 : Int) := by rw [he0]; exact and_64 (a / 4503599627370496) 11 2047 (by decide) (by decide) (by omega) _ _ (by omega) rfl
  have a2 : bits .and .u64 (a : Int) 4503599627370495 = (f0 : Int) := by rw [hf0]; exact and_64 a 52 4503599627370495 (by decide) (by decide) ha _ _ rfl rfl
  have he2 : e0 < 2048 := by omega
  have hM0 : M ≠ 0 := by omega
  have HX := Lib.hid hX
  have HC := Lib.hid hc
  have D0 := Lib.hid (At.new w #[.bool false, .string ⟨#[]⟩, .int .i64 0] 34)
  have B0 := Lib.hid (below_al (Below.refl _ w) (.cells #[.bool false, .string ⟨#[]⟩, .int .i64 0] 34))
  obtain ⟨E, hE⟩ : ∃ E : Int, E = exN a := ⟨_, rfl⟩
  have hEb : -1075 ≤ E ∧ E ≤ 1000 := by rw [hE, exN]; split <;> omega
  obtain ⟨hE1, hE2⟩ := hEb
  have HXE := Lib.hid (show X = E + t by rw [hE]; exact hX)
  clear hMo hR hX hc hfin
  have hpre : (e0 = 0 ∧ f0 = M ∧ E = -1074) ∨ (e0 ≠ 0 ∧ f0 + 4503599627370496 = M ∧ E = (e0 : Int) - 1075) := by
    rw [mantN, ← he0, ← hf0] at hM
    rw [exN, ← he0] at hE
    by_cases h : e0 = 0
    · rw [if_pos h] at hM hE; exact .inl ⟨h, hM.symm, by omega⟩
    · rw [if_neg h] at hM hE; exact .inr ⟨h, hM.symm, by omega⟩
  have hf52 : f0 < 4503599627370496 := by omega
  clear hM hE he0 hf0 HX
  have hM0b : ((M : Int) == 0) = false := by simpa using hM0
  rcases hpre with ⟨rfl, rfl, rfl⟩ | ⟨hne, hfm, rfl⟩
  · go_enter Tryz.func19, Tryz.ntmps19
    go_wp2_with fail
    refine (HI.out _).mono ?_
    rintro r w1 ⟨rfl, rfl⟩
    go_wp2
    go_loop [4, 5] (fun e f => FlI o t (-1074) f e) (fun _ f => (intOf f).toNat)
    case atStart => exact ⟨t, f0, _, rfl, rfl, HMo.out, Nat.le_refl _, by omega⟩
    case round =>
      obtain ⟨k, m, x, rfl, rfl, hm, hk, hx⟩ := hrel
      have hml : m < 9007199254740992 := by
        refine Nat.lt_of_le_of_lt ?_ hM53
        rw [hm, HMo.out]
        exact Nat.mul_le_mul_left _ (Nat.pow_le_pow_right (by decide) hk)
      have hm1 : 0 < m := by rw [hm]; exact Nat.mul_pos (by omega) (Nat.pow_pos (by decide))
      obtain ⟨ev1, ev2⟩ := even_step (o := o) (k := k) ho
      rw [← hm] at ev1 ev2
      have hxb1 : -1100 ≤ x := by omega
      have hxb2 : x ≤ 1200 := by omega
      have HM := Lib.hid hm
      have HXx := Lib.hid hx
      by_cases hk0 : 0 < k
      · have hev : ((m : Int) % 2 == 0) = true := by have := ev1.2 hk0; simp; omega
        obtain ⟨m2, hm2⟩ : ∃ m2, m2 = m / 2 := ⟨_, rfl⟩
        have hm2i : (m : Int) / 2 = (m2 : Int) := by omega
        have HE2 := Lib.hid (show m2 = o * 2 ^ (k - 1) by rw [hm2]; exact ev2 hk0)
        have Hlt := Lib.hid (show m2 < m by omega)
        clear hm hx ev1 ev2 hm2
        go_wp2
        go_round
        case rel => exact ⟨k - 1, m2, x + 1, rfl, rfl, HE2.out, by omega, by rw [HXx.out]; omega⟩
        case measure => have := Hlt.out; simp [intOf]; omega
      · obtain rfl : k = 0 := by omega
        obtain rfl : m = o := by rw [hm]; simp
        obtain rfl : x = X := by rw [hx, HXE.out]; omega
        have hev : ((m : Int) % 2 == 0) = false := by simp; omega
        clear hm hx ev1 ev2
        rcases HC.out with ⟨rfl, rfl⟩ | ⟨q, p, hq, rfl, hp, hS, hSs⟩ | ⟨q, p, hq, hXq, hp, hS⟩
        · obtain ⟨n1, n2, n3⟩ := ne_nil (decB_some m)
          obtain ⟨Sd, hSd⟩ : ∃ Sd, Sd = decB m := ⟨_, rfl⟩
          have HK := Lib.hid (HMk.out ⟨decB_some m, by decide⟩)
          rw [if_neg (by decide)] at HK
          rw [← hSd] at n1 n2 n3 HK HO
          clear hSd HC
          go_wp2_with fail
          refine (HO.out _).mono ?_
          rintro r w2 ⟨rfl, hb2⟩
          have DX := Lib.hid (D0.out.below hb2)
          have BX := Lib.hid (below_next B0.out hb2)
          clear hb2
          go_wp2_with fail
          refine (HK.out _).mono ?_
          rintro r w9 ⟨rfl, hb9⟩
          have D9 := Lib.hid (DX.out.below hb9)
          have B9 := Lib.hid (below_next BX.out hb9)
          have c0 := D9.out.c 0 rfl
          have c1 := D9.out.c 1 rfl
          have c2 := D9.out.c 2 rfl
          have f0' := D9.out.f 0
          have f1' := D9.out.f 1
          have f2' := D9.out.f 2
          have hz := D9.out.lt
          clear hb9
          go_wp2
          refine bodyPost_ret (v := .tuple #[.agg #[.bool (dN R), .string (dS R), .int .i64 (dX R)], .int .i64 (decE R)]) (by simp [results, Tryz.results19, go_sem, c0, c1, c2]) rfl ?_
          exact ⟨rfl, below3 B9.out (Nat.le_refl _) _ _ _⟩
        · have d1 : decide ((0 : Int) < (q : Int)) = true := by simp; omega
          have d2 : decide ((q : Int) < 0) = false := by simp
          have d3 : ¬ (q : Int) < 0 := by omega
          have d4 : (0 : Int) < (q : Int) := by omega
          have d5 : 0 < q := hq
          have hmin : min (q : Int) 700 = (p : Int) := by omega
          obtain ⟨n1, n2, n3⟩ := ne_nil hSs
          have HTm := Lib.hid (fun W => rtimes_calls m 2 p ⟨#[50]⟩ W decB_2 (by decide) (by decide) HOl.out (by omega))
          rw [← hS] at HTm
          have HK := Lib.hid (HMk.out ⟨hSs, by omega⟩)
          rw [if_neg (by omega)] at HK
          clear hS HC hp hSs
          go_wp2_with fail
          refine (HO.out _).mono ?_
          rintro r w2 ⟨rfl, hb2⟩
          have D2 := Lib.hid (D0.out.below hb2)
          have B2 := Lib.hid (below_next B0.out hb2)
          clear hb2
          go_wp2_with fail
          refine (HTm.out _).mono ?_
          rintro r w3 ⟨rfl, hb3⟩
          have DX := Lib.hid (D2.out.below hb3)
          have BX := Lib.hid (below_next B2.out hb3)
          clear hb3
          go_wp2_with fail
          refine (HK.out _).mono ?_
          rintro r w9 ⟨rfl, hb9⟩
          have D9 := Lib.hid (DX.out.below hb9)
          have B9 := Lib.hid (below_next BX.out hb9)
          have c0 := D9.out.c 0 rfl
          have c1 := D9.out.c 1 rfl
          have c2 := D9.out.c 2 rfl
          have f0' := D9.out.f 0
          have f1' := D9.out.f 1
          have f2' := D9.out.f 2
          have hz := D9.out.lt
          clear hb9
          go_wp2
          refine bodyPost_ret (v := .tuple #[.agg #[.bool (dN R), .string (dS R), .int .i64 (dX R)], .int .i64 (decE R)]) (by simp [results, Tryz.results19, go_sem, c0, c1, c2]) rfl ?_
          exact ⟨rfl, below3 B9.out (Nat.le_refl _) _ _ _⟩
        · have hxn : x < 0 := by omega
          have d1 : decide ((0 : Int) < x) = false := by simp; omega
          have d2 : decide (x < 0) = true := by simp; omega
          have d3 : ¬ (0 : Int) < x := by omega
          have hneg : -x = (q : Int) := by omega
          have hmin : min (q : Int) 700 = (p : Int) := by omega
          have HTm := Lib.hid (fun W => rtimes_calls m 5 p ⟨#[53]⟩ W decB_5 (by decide) (by decide) HOl.out (by omega))
          rw [← hS] at HTm
          clear hS HC hp hXq
          by_cases hSs : 0 < S.size
          · obtain ⟨n1, n2, n3⟩ := ne_nil hSs
            by_cases hx1000 : x < -1000
            · have HNo := Lib.hid (HNn.out (fun h => absurd h.2 (by omega)))
              have d5 : decide (x < -1000) = true := by simpa using hx1000
              go_wp2_with fail
              refine (HO.out _).mono ?_
              rintro r w2 ⟨rfl, hb2⟩
              have D2 := Lib.hid (D0.out.below hb2)
              have B2 := Lib.hid (below_next B0.out hb2)
              clear hb2
              go_wp2_with fail
              refine (HTm.out _).mono ?_
              rintro r w3 ⟨rfl, hb3⟩
              have DX := Lib.hid (D2.out.below hb3)
              have BX := Lib.hid (below_next B2.out hb3)
              clear hb3
              have c0 := DX.out.c 0 rfl
              have c1 := DX.out.c 1 rfl
              have c2 := DX.out.c 2 rfl
              have f0' := DX.out.f 0
              have f1' := DX.out.f 1
              have f2' := DX.out.f 2
              have hz := DX.out.lt
              go_wp2
              refine bodyPost_ret (v := .tuple #[.agg #[.bool false, .string ⟨#[]⟩, .int .i64 0], .int .i64 40]) (by simp [results, Tryz.results19, go_sem, c0, c1, c2]) rfl ?_
              exact ⟨by rw [HNo.out]; rfl, below3 BX.out (Nat.le_refl _) _ _ _⟩
            · have HK := Lib.hid (HMk.out ⟨hSs, by omega⟩)
              rw [if_pos hxn] at HK
              have d5 : decide (x < -1000) = false := by simpa using hx1000
              go_wp2_with fail
              refine (HO.out _).mono ?_
              rintro r w2 ⟨rfl, hb2⟩
              have D2 := Lib.hid (D0.out.below hb2)
              have B2 := Lib.hid (below_next B0.out hb2)
              clear hb2
              go_wp2_with fail
              refine (HTm.out _).mono ?_
              rintro r w3 ⟨rfl, hb3⟩
              have DX := Lib.hid (D2.out.below hb3)
              have BX := Lib.hid (below_next B2.out hb3)
              clear hb3
              go_wp2_with fail
              refine (HK.out _).mono ?_
              rintro r w9 ⟨rfl, hb9⟩
              have D9 := Lib.hid (DX.out.below hb9)
              have B9 := Lib.hid (below_next BX.out hb9)
              have c0 := D9.out.c 0 rfl
              have c1 := D9.out.c 1 rfl
              have c2 := D9.out.c 2 rfl
              have f0' := D9.out.f 0
              have f1' := D9.out.f 1
              have f2' := D9.out.f 2
              have hz := D9.out.lt
              clear hb9
              go_wp2
              refine bodyPost_ret (v := .tuple #[.agg #[.bool (dN R), .string (dS R), .int .i64 (dX R)], .int .i64 (decE R)]) (by simp [results, Tryz.results19, go_sem, c0, c1, c2]) rfl ?_
              exact ⟨rfl, below3 B9.out (Nat.le_refl _) _ _ _⟩
          · have HNo := Lib.hid (HNn.out (fun h => hSs h.1))
            obtain rfl : S = ⟨#[]⟩ := empty_of hSs
            go_wp2_with fail
            refine (HO.out _).mono ?_
            rintro r w2 ⟨rfl, hb2⟩
            have D2 := Lib.hid (D0.out.below hb2)
            have B2 := Lib.hid (below_next B0.out hb2)
            clear hb2
            go_wp2_with fail
            refine (HTm.out _).mono ?_
            rintro r w3 ⟨rfl, hb3⟩
            have DX := Lib.hid (D2.out.below hb3)
            have BX := Lib.hid (below_next B2.out hb3)
            clear hb3
            have c0 := DX.out.c 0 rfl
            have c1 := DX.out.c 1 rfl
            have c2 := DX.out.c 2 rfl
            have f0' := DX.out.f 0
            have f1' := DX.out.f 1
            have f2' := DX.out.f 2
            have hz := DX.out.lt
            go_wp2
            refine bodyPost_ret (v := .tuple #[.agg #[.bool false, .string ⟨#[]⟩, .int .i64 0], .int .i64 40]) (by simp [results, Tryz.results19, go_sem, c0, c1, c2]) rfl ?_
            exact ⟨by rw [HNo.out]; rfl, below3 BX.out (Nat.le_refl _) _ _ _⟩
  · have hneb : ((e0 : Int) == 0) = false := by simpa using hne
    have o1 : bits .or .u64 (f0 : Int) 4503599627370496 = (M : Int) := by rw [← hfm]; exact or_64r 4503599627370496 f0 52 (by omega) (by decide) (by omega)
    clear hfm
    go_enter Tryz.func19, Tryz.ntmps19
    go_wp2_with fail
    refine (HI.out _).mono ?_
    rintro r w1 ⟨rfl, rfl⟩
    go_wp2
    go_loop [4, 5] (fun e f => FlI o t ((e0 : Int) - 1075) f e) (fun _ f => (intOf f).toNat)
    case atStart => exact ⟨t, M, _, rfl, rfl, HMo.out, Nat.le_refl _, by omega⟩
    case round =>
      obtain ⟨k, m, x, rfl, rfl, hm, hk, hx⟩ := hrel
      have hml : m < 9007199254740992 := by
        refine Nat.lt_of_le_of_lt ?_ hM53
        rw [hm, HMo.out]
        exact Nat.mul_le_mul_left _ (Nat.pow_le_pow_right (by decide) hk)
      have hm1 : 0 < m := by rw [hm]; exact Nat.mul_pos (by omega) (Nat.pow_pos (by decide))
      obtain ⟨ev1, ev2⟩ := even_step (o := o) (k := k) ho
      rw [← hm] at ev1 ev2
      have hxb1 : -1100 ≤ x := by omega
      have hxb2 : x ≤ 1200 := by omega
      have HM := Lib.hid hm
      have HXx := Lib.hid hx
      by_cases hk0 : 0 < k
      · have hev : ((m : Int) % 2 == 0) = true := by have := ev1.2 hk0; simp; omega
        obtain ⟨m2, hm2⟩ : ∃ m2, m2 = m / 2 := ⟨_, rfl⟩
        have hm2i : (m : Int) / 2 = (m2 : Int) := by omega
        have HE2 := Lib.hid (show m2 = o * 2 ^ (k - 1) by rw [hm2]; exact ev2 hk0)
        have Hlt := Lib.hid (show m2 < m by omega)
        clear hm hx ev1 ev2 hm2
        go_wp2
        go_round
        case rel => exact ⟨k - 1, m2, x + 1, rfl, rfl, HE2.out, by omega, by rw [HXx.out]; omega⟩
        case measure => have := Hlt.out; simp [intOf]; omega
      · obtain rfl : k = 0 := by omega
        obtain rfl : m = o := by rw [hm]; simp
        obtain rfl : x = X := by rw [hx, HXE.out]; omega
        have hev : ((m : Int) % 2 == 0) = false := by simp; omega
        clear hm hx ev1 ev2
        rcases HC.out with ⟨rfl, rfl⟩ | ⟨q, p, hq, rfl, hp, hS, hSs⟩ | ⟨q, p, hq, hXq, hp, hS⟩
        · obtain ⟨n1, n2, n3⟩ := ne_nil (decB_some m)
          obtain ⟨Sd, hSd⟩ : ∃ Sd, Sd = decB m := ⟨_, rfl⟩
          have HK := Lib.hid (HMk.out ⟨decB_some m, by decide⟩)
          rw [if_neg (by decide)] at HK
          rw [← hSd] at n1 n2 n3 HK HO
          clear hSd HC
          go_wp2_with fail
          refine (HO.out _).mono ?_
          rintro r w2 ⟨rfl, hb2⟩
          have DX := Lib.hid (D0.out.below hb2)
          have BX := Lib.hid (below_next B0.out hb2)
          clear hb2
          go_wp2_with fail
          refine (HK.out _).mono ?_
          rintro r w9 ⟨rfl, hb9⟩
          have D9 := Lib.hid (DX.out.below hb9)
          have B9 := Lib.hid (below_next BX.out hb9)
          have c0 := D9.out.c 0 rfl
          have c1 := D9.out.c 1 rfl
          have c2 := D9.out.c 2 rfl
          have f0' := D9.out.f 0
          have f1' := D9.out.f 1
          have f2' := D9.out.f 2
          have hz := D9.out.lt
          clear hb9
          go_wp2
          refine bodyPost_ret (v := .tuple #[.agg #[.bool (dN R), .string (dS R), .int .i64 (dX R)], .int .i64 (decE R)]) (by simp [results, Tryz.results19, go_sem, c0, c1, c2]) rfl ?_
          exact ⟨rfl, below3 B9.out (Nat.le_refl _) _ _ _⟩
        · have d1 : decide ((0 : Int) < (q : Int)) = true := by simp; omega
          have d2 : decide ((q : Int) < 0) = false := by simp
          have d3 : ¬ (q : Int) < 0 := by omega
          have d4 : (0 : Int) < (q : Int) := by omega
          have d5 : 0 < q := hq
          have hmin : min (q : Int) 700 = (p : Int) := by omega
          obtain ⟨n1, n2, n3⟩ := ne_nil hSs
          have HTm := Lib.hid (fun W => rtimes_calls m 2 p ⟨#[50]⟩ W decB_2 (by decide) (by decide) HOl.out (by omega))
          rw [← hS] at HTm
          have HK := Lib.hid (HMk.out ⟨hSs, by omega⟩)
          rw [if_neg (by omega)] at HK
          clear hS HC hp hSs
          go_wp2_with fail
          refine (HO.out _).mono ?_
          rintro r w2 ⟨rfl, hb2⟩
          have D2 := Lib.hid (D0.out.below hb2)
          have B2 := Lib.hid (below_next B0.out hb2)
          clear hb2
          go_wp2_with fail
          refine (HTm.out _).mono ?_
          rintro r w3 ⟨rfl, hb3⟩
          have DX := Lib.hid (D2.out.below hb3)
          have BX := Lib.hid (below_next B2.out hb3)
          clear hb3
          go_wp2_with fail
          refine (HK.out _).mono ?_
          rintro r w9 ⟨rfl, hb9⟩
          have D9 := Lib.hid (DX.out.below hb9)
          have B9 := Lib.hid (below_next BX.out hb9)
          have c0 := D9.out.c 0 rfl
          have c1 := D9.out.c 1 rfl
          have c2 := D9.out.c 2 rfl
          have f0' := D9.out.f 0
          have f1' := D9.out.f 1
          have f2' := D9.out.f 2
          have hz := D9.out.lt
          clear hb9
          go_wp2
          refine bodyPost_ret (v := .tuple #[.agg #[.bool (dN R), .string (dS R), .int .i64 (dX R)], .int .i64 (decE R)]) (by simp [results, Tryz.results19, go_sem, c0, c1, c2]) rfl ?_
          exact ⟨rfl, below3 B9.out (Nat.le_refl _) _ _ _⟩
        · have hxn : x < 0 := by omega
          have d1 : decide ((0 : Int) < x) = false := by simp; omega
          have d2 : decide (x < 0) = true := by simp; omega
          have d3 : ¬ (0 : Int) < x := by omega
          have hneg : -x = (q : Int) := by omega
          have hmin : min (q : Int) 700 = (p : Int) := by omega
          have HTm := Lib.hid (fun W => rtimes_calls m 5 p ⟨#[53]⟩ W decB_5 (by decide) (by decide) HOl.out (by omega))
          rw [← hS] at HTm
          clear hS HC hp hXq
          by_cases hSs : 0 < S.size
          · obtain ⟨n1, n2, n3⟩ := ne_nil hSs
            by_cases hx1000 : x < -1000
            · have HNo := Lib.hid (HNn.out (fun h => absurd h.2 (by omega)))
              have d5 : decide (x < -1000) = true := by simpa using hx1000
              go_wp2_with fail
              refine (HO.out _).mono ?_
              rintro r w2 ⟨rfl, hb2⟩
              have D2 := Lib.hid (D0.out.below hb2)
              have B2 := Lib.hid (below_next B0.out hb2)
              clear hb2
              go_wp2_with fail
              refine (HTm.out _).mono ?_
              rintro r w3 ⟨rfl, hb3⟩
              have DX := Lib.hid (D2.out.below hb3)
              have BX := Lib.hid (below_next B2.out hb3)
              clear hb3
              have c0 := DX.out.c 0 rfl
              have c1 := DX.out.c 1 rfl
              have c2 := DX.out.c 2 rfl
              have f0' := DX.out.f 0
              have f1' := DX.out.f 1
              have f2' := DX.out.f 2
              have hz := DX.out.lt
              go_wp2
              refine bodyPost_ret (v := .tuple #[.agg #[.bool false, .string ⟨#[]⟩, .int .i64 0], .int .i64 40]) (by simp [results, Tryz.results19, go_sem, c0, c1, c2]) rfl ?_
              exact ⟨by rw [HNo.out]; rfl, below3 BX.out (Nat.le_refl _) _ _ _⟩
            · have HK := Lib.hid (HMk.out ⟨hSs, by omega⟩)
              rw [if_pos hxn] at HK
              have d5 : decide (x < -1000) = false := by simpa using hx1000
              go_wp2_with fail
              refine (HO.out _).mono ?_
              rintro r w2 ⟨rfl, hb2⟩
              have D2 := Lib.hid (D0.out.below hb2)
              have B2 := Lib.hid (below_next B0.out hb2)
              clear hb2
              go_wp2_with fail
              refine (HTm.out _).mono ?_
              rintro r w3 ⟨rfl, hb3⟩
              have DX := Lib.hid (D2.out.below hb3)
              have BX := Lib.hid (below_next B2.out hb3)
              clear hb3
              go_wp2_with fail
              refine (HK.out _).mono ?_
              rintro r w9 ⟨rfl, hb9⟩
              have D9 := Lib.hid (DX.out.below hb9)
              have B9 := Lib.hid (below_next BX.out hb9)
              have c0 := D9.out.c 0 rfl
              have c1 := D9.out.c 1 rfl
              have c2 := D9.out.c 2 rfl
              have f0' := D9.out.f 0
              have f1' := D9.out.f 1
              have f2' := D9.out.f 2
              have hz := D9.out.lt
              clear hb9
              go_wp2
              refine bodyPost_ret (v := .tuple #[.agg #[.bool (dN R), .string (dS R), .int .i64 (dX R)], .int .i64 (decE R)]) (by simp [results, Tryz.results19, go_sem, c0, c1, c2]) rfl ?_
              exact ⟨rfl, below3 B9.out (Nat.le_refl _) _ _ _⟩
          · have HNo := Lib.hid (HNn.out (fun h => hSs h.1))
            obtain rfl : S = ⟨#[]⟩ := empty_of hSs
            go_wp2_with fail
            refine (HO.out _).mono ?_
            rintro r w2 ⟨rfl, hb2⟩
            have D2 := Lib.hid (D0.out.below hb2)
            have B2 := Lib.hid (below_next B0.out hb2)
            clear hb2
            go_wp2_with fail
            refine (HTm.out _).mono ?_
            rintro r w3 ⟨rfl, hb3⟩
            have DX := Lib.hid (D2.out.below hb3)
            have BX := Lib.hid (below_next B2.out hb3)
            clear hb3
            have c0 := DX.out.c 0 rfl
            have c1 := DX.out.c 1 rfl
            have c2 := DX.out.c 2 rfl
            have f0' := DX.out.f 0
            have f1' := DX.out.f 1
            have f2' := DX.out.f 2
            have hz := DX.out.lt
            go_wp2
            refine bodyPost_ret (v := .tuple #[.agg #[.bool false, .string ⟨#[]⟩, .int .i64 0], .int .i64 40]) (by simp [results, Tryz.results19, go_sem, c0, c1, c2]) rfl ?_
            exact ⟨by rw [HNo.out]; rfl, below3 BX.out (Nat.le_refl _) _ _ _⟩

set_option maxRecDepth 100000 in
set_option maxHeartbeats 400000 in
theorem rToDec_no (a : Nat) (w : World) (ha : a < 18446744073709551616) (hf : isFin a = false) : Calls Tryz.prog 19 #[.int .u64 (a : Int)] w fun r w' => r = .returned (.tuple #[.agg #[.bool false, .string ⟨#[]⟩, .int .i64 0], .int .i64 50]) ∧ Below w.heap.size w w' := by
  have HI := Lib.hid (fun W => rIsFinite_calls a W ha)
  rw [hf] at HI
  clear hf ha
  go_enter Tryz.func19, Tryz.ntmps19
  go_wp2_with fail
  refine (HI.out _).mono ?_
  rintro r w1 ⟨rfl, rfl⟩
  go_wp2
  refine bodyPost_ret (v := .tuple #[.agg #[.bool false, .string ⟨#[]⟩, .int .i64 0], .int .i64 50]) (by simp [results, Tryz.results19, go_sem]) rfl ?_
  exact ⟨rfl, below_al (Below.refl _ _) _⟩
set_option maxRecDepth 100000 in
set_option maxHeartbeats 400000 in
theorem rToDec_zero (a : Nat) (w : World) (ha : a = 0 ∨ a = 9223372036854775808) : Calls Tryz.prog 19 #[.int .u64 (a : Int)] w fun r w' => r = .returned (.tuple #[.agg #[.bool false, .string ⟨#[48]⟩, .int .i64 0], .int .i64 0]) ∧ Below w.heap.size w w' := by
  have HI := Lib.hid (fun W => rIsFinite_calls a W (by omega))
  have hfin : isFin a = true := by rcases ha with rfl | rfl <;> decide
  rw [hfin] at HI
  have a1 : bits .and .u64 ((a : Int) / 4503599627370496) 2047 = 0 := by
    have := and_64 (a / 4503599627370496) 11 2047 (by decide) (by decide) (by omega) ((a : Int) / 4503599627370496) 2047 (by omega) rfl
    rw [this]; rcases ha with rfl | rfl <;> decide
  have a2 : bits .and .u64 (a : Int) 4503599627370495 = 0 := by
    have := and_64 a 52 4503599627370495 (by decide) (by decide) (by omega) (a : Int) 4503599627370495 rfl rfl
    rw [this]; rcases ha with rfl | rfl <;> decide
  clear ha hfin
  go_enter Tryz.func19, Tryz.ntmps19
  go_wp2_with fail
  refine (HI.out _).mono ?_
  rintro r w1 ⟨rfl, rfl⟩
  go_wp2
  refine bodyPost_ret (v := .tuple #[.agg #[.bool false, .string ⟨#[48]⟩, .int .i64 0], .int .i64 0]) (by simp [results, Tryz.results19, go_sem]) rfl ?_
  exact ⟨rfl, below_al (Below.refl _ _) _⟩
theorem mant_zero2 {b : Nat} (hb : b < 18446744073709551616) (h : mantN b = 0) : b = 0 ∨ b = 9223372036854775808 := by
  rw [mantN] at h
  split at h <;> omega
theorem two_lim {o n E : Nat} (hE : E = 400) (ho : o < 2 ^ 53) (hn : n ≤ 700) : o * 2 ^ n < lim := by
  have h1 : 2 ^ 53 * 2 ^ n ≤ 2 ^ (3 * E) := by rw [← Nat.pow_add]; exact Nat.pow_le_pow_right (by decide) (by omega)
  have h2 : o * 2 ^ n < 2 ^ 53 * 2 ^ n := Nat.mul_lt_mul_of_pos_right ho (Nat.pow_pos (by decide))
  have h3 : 2 ^ (3 * E) ≤ 10 ^ E := by rw [Nat.pow_mul]; exact Nat.pow_le_pow_left (by decide) E
  exact lt_lim (k := E) (by omega) (by omega) (Nat.lt_of_lt_of_le h2 (Nat.le_trans h1 h3))
theorem rToDec_calls (a : Nat) (w : World) (ha : a < 18446744073709551616) : Calls Tryz.prog 19 #[.int .u64 (a : Int)] w (TdP a w) := by
  cases hf : isFin a with
  | false =>
    refine (rToDec_no a w ha hf).mono ?_
    rintro r w' ⟨rfl, hw⟩
    exact ⟨by rw [tdR, tdE, hf]; rfl, hw⟩
  | true =>
    have htd : tdR a = decOf a ∧ tdE a = decE (decOf a) := by rw [tdR, tdE, hf]; exact ⟨rfl, rfl⟩
    by_cases hz : mantN a = 0
    · refine (rToDec_zero a w (mant_zero2 ha hz)).mono ?_
      rintro r w' ⟨rfl, hw⟩
      refine ⟨?_, hw⟩
      rw [htd.1, htd.2, show decOf a = some (false, 0, 0) from by rw [decOf, if_pos hz], dS, decB_zero]; rfl
    · have hm53 := mant_lt a
      obtain ⟨o, t, hm, ho, ho0, ht, _, _⟩ := val_parts hz (Nat.lt_trans hm53 (by decide)) 0
      have ho53 : o < 2 ^ 53 := by
        refine Nat.lt_of_le_of_lt ?_ hm53
        rw [hm]; exact Nat.le_mul_of_pos_right _ (Nat.pow_pos (by decide))
      have hEb : -1075 ≤ exN a ∧ exN a ≤ 1000 := by rw [exN]; split <;> omega
      obtain ⟨X, hX⟩ : ∃ X, X = exN a + t := ⟨_, rfl⟩
      obtain ⟨hE1, hE2⟩ := hEb
      have hsg : ((a : Int) / 9223372036854775808 == 1) = sgnN a := by
        rw [sgnN, Bool.eq_iff_iff]; simp; omega
      have hdec : decOf a = decX a o X := by rw [hX]; exact decOf_parts hm ho
      obtain ⟨EE, hEE⟩ : ∃ EE, EE = 400 := ⟨_, rfl⟩
      have goal : ∃ S : ByteArray, ((X = 0 ∧ S = decB o) ∨ (∃ q p : Nat, 0 < q ∧ X = (q : Int) ∧ p = min q 700 ∧ S = tmB o 2 p ∧ 0 < S.size) ∨ (∃ q p : Nat, 0 < q ∧ X = -(q : Int) ∧ p = min q 700 ∧ S = tmB o 5 p)) ∧
          ((0 < S.size ∧ -1000 ≤ X → ∀ W, Calls Tryz.prog 33 #[.bool (sgnN a), .string S, .int .i64 (if X < 0 then X else 0)] W (DecP (decOf a) W)) ∧ (¬ (0 < S.size ∧ -1000 ≤ X) → decOf a = none)) := by
        rw [hdec, decX]
        rcases Int.lt_trichotomy X 0 with hlt | heq | hgt
        · obtain ⟨q, hq⟩ : ∃ q : Nat, X = -(q : Int) := ⟨(-X).toNat, by omega⟩
          rw [if_neg (show ¬ 0 ≤ X by omega), if_pos hlt, show (-X).toNat = q from by omega]
          refine ⟨tmB o 5 (min q 700), .inr (.inr ⟨q, min q 700, by omega, hq, rfl, rfl⟩), ?_, ?_⟩
          · rintro ⟨h1, _⟩ W
            by_cases hfit : o * 5 ^ (min q 700) < lim
            · rw [tmB, if_pos hfit]
              have hmk := rMake_p (sgnN a) (decB (o * 5 ^ (min q 700))) X W
              rw [decB_data] at hmk
              by_cases hq7 : q ≤ 700
              · rw [Nat.min_eq_left hq7] at hmk ⊢; exact hmk
              · rw [far_five2 ho (by omega)] at hmk
                rw [far_five2 ho (by omega)]
                exact hmk
            · rw [tmB, if_neg hfit] at h1
              exact absurd h1 (by decide)
          · intro h
            by_cases hq4 : q ≤ 400
            · exfalso
              apply h
              have hfit := base_lim (b := 5) (.inr rfl) ho53 hq4
              rw [Nat.min_eq_left (by omega), tmB, if_pos hfit]
              exact ⟨decB_some _, by omega⟩
            · exact far_five2 ho (by omega)
        · rw [if_pos (show 0 ≤ X by omega), if_neg (show ¬ X < 0 by omega), heq]
          refine ⟨decB o, .inl ⟨rfl, rfl⟩, ?_, fun h => absurd ⟨decB_some o, by decide⟩ h⟩
          intro _ W
          have hmk := rMake_p (sgnN a) (decB o) 0 W
          rw [decB_data] at hmk
          rw [Int.toNat_zero, Nat.pow_zero, Nat.mul_one]
          exact hmk
        · obtain ⟨q, hq⟩ : ∃ q : Nat, X = (q : Int) := ⟨X.toNat, by omega⟩
          have hfit := two_lim (n := min q 700) hEE ho53 (by omega)
          rw [if_pos (show 0 ≤ X by omega), if_neg (show ¬ X < 0 by omega), show X.toNat = q from by omega]
          refine ⟨tmB o 2 (min q 700), .inr (.inl ⟨q, min q 700, by omega, hq, rfl, rfl, by rw [tmB, if_pos hfit]; exact decB_some _⟩), ?_, fun h => absurd ⟨by rw [tmB, if_pos hfit]; exact decB_some _, by omega⟩ h⟩
          intro _ W
          rw [tmB, if_pos hfit]
          have hmk := rMake_p (sgnN a) (decB (o * 2 ^ (min q 700))) 0 W
          rw [decB_data] at hmk
          by_cases hq7 : q ≤ 700
          · rw [Nat.min_eq_left hq7] at hmk ⊢; exact hmk
          · rw [far_two ho ho53 (by omega)] at hmk
            rw [far_two ho ho53 (by omega)]
            exact hmk
      obtain ⟨S, hS1, hS2⟩ := goal
      refine (rToDec_walk a (mantN a) o t X S (sgnN a) (decOf a) w ha rfl hm ho ht hX (by omega) (by omega) hf hsg hS1 hS2).mono ?_
      rintro r w' ⟨rfl, hw⟩
      exact ⟨by rw [htd.1, htd.2], hw⟩
end Go.Proofs.YtgcalhnfoakggaaGreatDoor

namespace Go.Proofs.YtgcalhnfoakggaaGreatDoor
open Go.RowKit
open Go.Lib (decDigits nDigits)

theorem rdiv_is (a d : Nat) (w : World) (ha : a < lim) (hd0 : 0 < d) (hd1 : d < 4294967296) : Calls Tryz.prog 39 #[.string (decB a), .int .u32 (d : Int)] w fun e w' => e = .returned (.tuple #[.string (decB (a / d)), .int .u32 ((a % d : Nat) : Int), .int .i64 0]) ∧ Below w.heap.size w w' := by
  have := rDiv_yes (decB a) d w (isNat_B ha) hd0 hd1
  rw [dv_B] at this
  exact this
/-- What the loops keep. -/
def L1I (c q : Nat) (n : Bool) (C : ByteArray) (e : Int) (w : World) (v i : Value) (wr : World) : Prop := ∃ k M : Nat, i = .int .i64 k ∧ k ≤ q ∧ v = .string (decB M) ∧ M = c / 5 ^ k ∧ 5 ^ k ∣ c ∧ At wr w.heap.size #[.bool n, .string C, .int .i64 e] 34 ∧ Below w.heap.size w wr
def L2I (o t : Nat) (n : Bool) (C : ByteArray) (e : Int) (w : World) (v x : Value) (wr : World) : Prop := ∃ k M : Nat, ∃ y : Int, v = .string (decB M) ∧ x = .int .i64 y ∧ M = o * 2 ^ k ∧ k ≤ t ∧ y = e + ((t : Int) - k) ∧ At wr w.heap.size #[.bool n, .string C, .int .i64 e] 34 ∧ Below w.heap.size w wr
def L3I (o : Nat) (X : Int) (x m : Value) : Prop := ∃ j M : Nat, ∃ y : Int, x = .int .i64 y ∧ m = .int .u64 (M : Int) ∧ M = o * 2 ^ j ∧ j + o.log2 ≤ 52 ∧ y = X - j
theorem shift_lt {o j : Nat} (h0 : o ≠ 0) (hj : j + o.log2 ≤ 52) : (o * 2 ^ j < 4503599627370496 ↔ j + o.log2 < 52) ∧ o * 2 ^ j < 9007199254740992 ∧ 0 < o * 2 ^ j := by
  have h1 := log2_mul (t := j) h0
  have hne : o * 2 ^ j ≠ 0 := Nat.mul_ne_zero h0 (Nat.ne_of_gt (Nat.pow_pos (by decide)))
  refine ⟨?_, ?_, by omega⟩
  · rw [← e52, ← Nat.log2_lt hne, h1]; omega
  · rw [show (9007199254740992 : Nat) = 2 ^ 53 from by decide, ← Nat.log2_lt hne, h1]; omega

set_option maxRecDepth 100000 in
set_option maxHeartbeats 1000000 in
theorem rOfDec_walk (n : Bool) (c : Nat) (C : ByteArray) (e : Int) (q F o t : Nat) (X : Int) (w : World) (hC : C = decB c) (hc0 : c ≠ 0) (hcl : c < lim) (he1 : -100 ≤ e) (he2 : e ≤ 100) (hq : q = (-e).toNat)
    (hr : rightD n (decDigits c) e = true) (hF : ¬ (e < 0 ∧ c % 5 ^ q ≠ 0) → F = fives c e ∧ F < lim ∧ F = o * 2 ^ t) (ho : o % 2 ≠ 0) (ht : t < 700) (hX : X = e + t) (hX2 : o < 9007199254740992 → -100 ≤ X ∧ X + o.log2 ≤ 900) :
    Calls Tryz.prog 21 #[.agg #[.bool n, .string C, .int .i64 e]] w fun r w' => r = .returned (trV (if e < 0 ∧ c % 5 ^ q ≠ 0 then none else packR n o X)) ∧ Below w.heap.size w w' := by
  have HRt := Lib.hid (fun W => rRight_p n C e W)
  rw [hC, decB_data, hr] at HRt
  rw [← hC] at HRt
  have hn48 : ¬ C.toList = [48] := by rw [Lib.toList_data, hC, decB_data]; exact fun he => hc0 (by have := congrArg dv he; rw [dv_dec] at this; exact this)
  have hn48b : (C.toList == [48]) = false := beq_eq_false_iff_ne.2 hn48
  have ho0 : o ≠ 0 := fun e => by rw [e] at ho; exact ho rfl
  have HF := Lib.hid hF
  have HX2 := Lib.hid hX2
  have HCe := Lib.hid hC
  have Hcl := Lib.hid hcl
  have Hho := Lib.hid ho
  have D0 := Lib.hid (At.new w #[.bool n, .string C, .int .i64 e] 34)
  have B0 := Lib.hid (below_al (Below.refl _ w) (.cells #[.bool n, .string C, .int .i64 e] 34))
  obtain ⟨RR, hRR⟩ : ∃ RR, RR = (if e < 0 ∧ c % 5 ^ q ≠ 0 then none else packR n o X) := ⟨_, rfl⟩
  rw [← hRR]
  have HRR := Lib.hid hRR
  have hq100 : q ≤ 100 := by omega
  have HQ := Lib.hid hq
  have HXh := Lib.hid hX
  clear hF hX2 hC hcl hr hRR ho hq hX
  go_enter Tryz.func21, Tryz.ntmps21
  go_wp2_with fail
  refine (HRt.out _).mono ?_
  rintro r w1 ⟨rfl, hb1⟩
  have D1 := Lib.hid (D0.out.below hb1)
  have B1 := Lib.hid (below_next B0.out hb1)
  clear hb1 D0 B0
  have c0 := D1.out.c 0 rfl
  have c1 := D1.out.c 1 rfl
  have c2 := D1.out.c 2 rfl
  go_wp2
  go_loopw [4, 6] (fun v i wr => L1I c q n C e w v i wr) (fun _ i _ => q - (intOf i).toNat)
  case atStart => exact ⟨0, c, rfl, Nat.zero_le _, by rw [HCe.out], by simp, by simp, D1.out, B1.out⟩
  case round =>
    obtain ⟨k, M, rfl, hk, rfl, hM, hdv, hD, hB⟩ := hrel
    have hml : M < lim := by rw [hM]; exact Nat.lt_of_le_of_lt (Nat.div_le_self _ _) Hcl.out
    have HB := Lib.hid hB
    have HD := Lib.hid hD
    have HM := Lib.hid hM
    have HDv := Lib.hid hdv
    have HDi := Lib.hid (fun W => rdiv_is M 5 W hml (by decide) (by decide))
    clear hB hD hM hdv hml c0 c1 c2
    have c0 := HD.out.c 0 rfl
    have c2 := HD.out.c 2 rfl
    by_cases hlt : k < q
    · have dk : decide ((k : Int) < -e) = true := by have := HQ.out; simp; omega
      obtain ⟨r, hrr⟩ : ∃ r, r = M % 5 := ⟨_, rfl⟩
      rw [← hrr] at HDi
      by_cases h0 : r = 0
      · have HN := Lib.hid ((five_step HDv.out).1 (by rw [← HM.out]; omega))
        have hri : ((r : Int) != 0) = false := by rw [h0]; rfl
        clear hrr h0
        go_wp2_with (go_at_call 39; refine (HDi.out _).mono ?_; rintro r w2 ⟨rfl, hb2⟩)
        go_roundw
        case rel => exact ⟨k + 1, M / 5, by go_num, by omega, rfl, by rw [HM.out, Nat.div_div_eq_div_mul, Nat.pow_succ], HN.out, HD.out.below hb2, below_next HB.out hb2⟩
        case measure => simp [intOf]; omega
      · have hb0 : ((r : Int) != 0) = true := by simpa using h0
        have HN := Lib.hid (show RR = none by
          rw [HRR.out, if_pos]
          refine ⟨by have := HQ.out; omega, fun h => h0 ?_⟩
          rw [hrr, HM.out]
          exact (five_step HDv.out).2 (Nat.dvd_trans (Nat.pow_dvd_pow 5 (by omega)) (Nat.dvd_of_mod_eq_zero h)))
        clear hrr
        go_wp2_with (go_at_call 39; refine (HDi.out _).mono ?_; rintro r w2 ⟨rfl, hb2⟩)
        go_ret2
        exact ⟨by rw [HN.out]; rfl, below_next HB.out hb2⟩
    · obtain rfl : k = q := by omega
      have dk : decide ((k : Int) < -e) = false := by have := HQ.out; simp; omega
      have dk2 : ¬ (k : Int) < -e := by have := HQ.out; omega
      have hok : ¬ (e < 0 ∧ c % 5 ^ k ≠ 0) := fun h => h.2 (Nat.mod_eq_zero_of_dvd HDv.out)
      obtain ⟨hFf, hFl, hFo⟩ := HF.out hok
      have HR2 := Lib.hid (show RR = packR n o X by rw [HRR.out, if_neg hok])
      have HFo := Lib.hid hFo
      have HFl := Lib.hid hFl
      by_cases hep : 0 < e
      · have de : decide ((0 : Int) < e) = true := by simpa using hep
        have hMc : M = c := by rw [HM.out, show k = 0 from by have := HQ.out; omega]; simp
        obtain ⟨p, hp⟩ : ∃ p : Nat, e = (p : Int) := ⟨e.toNat, by omega⟩
        have hFp : F = c * 5 ^ p := by rw [hFf, fives, if_neg (by omega), show e.toNat = p from by omega]
        have HTm := Lib.hid (fun W => rtimes_calls c 5 p ⟨#[53]⟩ W decB_5 (by decide) (by decide) Hcl.out (by omega))
        rw [show tmB c 5 p = decB F from by rw [tmB, if_pos (by rw [← hFp]; exact hFl), ← hFp], ← hMc, ← hp] at HTm
        clear hFf hFl hFo hok hFp hp HF HRR hMc
        go_wp2_with fail
        refine (HTm.out _).mono ?_
        rintro r w2 ⟨rfl, hb2⟩
        have HD2 := Lib.hid (HD.out.below hb2)
        have HB2 := Lib.hid (below_next HB.out hb2)
        clear hb2 c0 c2
        go_wp2
        go_loopw [4, 5] (fun v x wr => L2I o t n C e w v x wr) (fun _ x _ => (X - intOf x).toNat)
        case atStart => exact ⟨t, F, e, rfl, rfl, HFo.out, Nat.le_refl _, by omega, HD2.out, HB2.out⟩
        case round =>
          obtain ⟨k2, M2, y, rfl, rfl, hM2, hk2, hy, hD3, hB3⟩ := hrel
          have hM2l : M2 < lim := by
            refine Nat.lt_of_le_of_lt ?_ HFl.out
            rw [hM2, HFo.out]
            exact Nat.mul_le_mul_left _ (Nat.pow_le_pow_right (by decide) hk2)
          have HDj := Lib.hid (fun W => rdiv_is M2 2 W hM2l (by decide) (by decide))
          obtain ⟨ev1, ev2⟩ := even_step (o := o) (k := k2) Hho.out
          rw [← hM2] at ev1 ev2
          have HY := Lib.hid hy
          have HD3 := Lib.hid hD3
          have HB3 := Lib.hid hB3
          have hyb1 : -200 ≤ y := by omega
          have hyb2 : y ≤ 1000 := by omega
          obtain ⟨r2, hr2⟩ : ∃ r2, r2 = M2 % 2 := ⟨_, rfl⟩
          rw [← hr2] at HDj
          clear hD3 hB3
          by_cases hk0 : 0 < k2
          · have hri2 : ((r2 : Int) != 0) = false := by have := ev1.2 hk0; simp; omega
            have HE2 := Lib.hid (ev2 hk0)
            clear hM2 hM2l ev1 ev2 hr2 hy
            go_wp2_with (go_at_call 39; refine (HDj.out _).mono ?_; rintro r w4 ⟨rfl, hb4⟩)
            go_roundw
            case rel => exact ⟨k2 - 1, M2 / 2, y + 1, rfl, rfl, HE2.out, by omega, by rw [HY.out]; omega, HD3.out.below hb4, below_next HB3.out hb4⟩
            case measure => have := HY.out; have := HXh.out; simp [intOf]; omega
          · obtain rfl : k2 = 0 := by omega
            obtain rfl : M2 = o := by rw [hM2]; simp
            obtain rfl : y = X := by rw [hy, HXh.out]; omega
            have hri2 : ((r2 : Int) != 0) = true := by have := Hho.out; simp; omega
            have hol := hM2l
            clear hM2 hM2l ev1 ev2 hr2 hy
            by_cases hbig : 18446744073709551616 ≤ M2
            · have HTo := Lib.hid (fun W => rTo_big (decB M2) W (isNat_B hol) (by rw [dv_B]; exact hbig))
              have HN := Lib.hid (show RR = none by rw [HR2.out, packR, if_pos (by omega)])
              go_wp2_with (first
                | (go_at_call 39; refine (HDj.out _).mono ?_; rintro r w4 ⟨rfl, hb4⟩)
                | (go_at_call 40; refine (HTo.out _).mono ?_; rintro r w5 ⟨rfl, hb5⟩))
              go_ret2
              exact ⟨by rw [HN.out]; rfl, below_next (below_next HB3.out hb4) hb5⟩
            · have HTo := Lib.hid (fun W => rTo_yes (decB M2) W (isNat_B hol) (by rw [dv_B]; omega))
              rw [dv_B] at HTo
              by_cases h53 : 9007199254740992 ≤ M2
              · have HN := Lib.hid (show RR = none by rw [HR2.out, packR, if_pos h53])
                have d53 : decide ((9007199254740992 : Int) ≤ (M2 : Int)) = true := by simp; omega
                have d53b : decide (9007199254740992 ≤ M2) = true := by simpa using h53
                go_wp2_with (first
                  | (go_at_call 39; refine (HDj.out _).mono ?_; rintro r w4 ⟨rfl, hb4⟩)
                  | (go_at_call 40; refine (HTo.out _).mono ?_; rintro r w5 ⟨rfl, hb5⟩))
                go_ret2
                exact ⟨by rw [HN.out]; rfl, below_next (below_next HB3.out hb4) hb5⟩
              · have HN := Lib.hid (show RR = some (packB n M2 y) by rw [HR2.out, packR, if_neg h53])
                have d53 : decide ((9007199254740992 : Int) ≤ (M2 : Int)) = false := by simp; omega
                have d53b : decide (9007199254740992 ≤ M2) = false := by simpa using h53
                obtain ⟨hx1, hx2⟩ := HX2.out (by omega)
                have hlg : M2.log2 ≤ 52 := by
                  have := (Nat.log2_lt ho0).2 (show M2 < 2 ^ 53 by rw [show (2 : Nat) ^ 53 = 9007199254740992 from by decide]; omega)
                  omega
                go_wp2_with (first
                  | (go_at_call 39; refine (HDj.out _).mono ?_; rintro r w4 ⟨rfl, hb4⟩)
                  | (go_at_call 40; refine (HTo.out _).mono ?_; rintro r w5 ⟨rfl, hb5⟩))
                have HD5 := Lib.hid ((HD3.out.below hb4).below hb5)
                have HB5 := Lib.hid (below_next (below_next HB3.out hb4) hb5)
                clear hb4 hb5
                go_loop [5, 13] (fun x m => L3I M2 y x m) (fun _ m => (9007199254740992 - intOf m).toNat)
                case atStart => exact ⟨0, M2, y, rfl, rfl, by simp, by omega, by omega⟩
                case round =>
                  obtain ⟨j, N, z, rfl, rfl, hNo, hj, hz⟩ := hrel
                  obtain ⟨s1, s2, s3⟩ := shift_lt ho0 hj
                  rw [← hNo] at s1 s2 s3
                  have hzb1 : -1000 ≤ z := by omega
                  have hzb2 : z ≤ 1000 := by omega
                  by_cases hj2 : j + M2.log2 < 52
                  · have hN2 := s1.2 hj2
                    have dN2 : decide ((N : Int) < 4503599627370496) = true := by simp; omega
                    have dN3 : decide (N < 4503599627370496) = true := by simpa using hN2
                    obtain ⟨N2, hN2e⟩ : ∃ N2, N2 = 2 * N := ⟨_, rfl⟩
                    have hN2i : 2 * (N : Int) = (N2 : Int) := by omega
                    have HE := Lib.hid (show N2 = M2 * 2 ^ (j + 1) by rw [hN2e, hNo, Nat.pow_succ, Nat.mul_comm 2, Nat.mul_assoc])
                    have HZ := Lib.hid hz
                    have Hgt := Lib.hid (show N < N2 by omega)
                    clear hNo hz s1 hN2e
                    go_wp2
                    go_round
                    case rel => exact ⟨j + 1, N2, z - 1, rfl, rfl, HE.out, by omega, by rw [HZ.out]; omega⟩
                    case measure => have := Hgt.out; simp [intOf]; omega
                  · have hN2 : ¬ N < 4503599627370496 := fun h => hj2 (s1.1 h)
                    have dN2 : decide ((N : Int) < 4503599627370496) = false := by simp; omega
                    have dN3 : decide (N < 4503599627370496) = false := by simpa using hN2
                    have hje : j = 52 - M2.log2 := by omega
                    obtain ⟨Eb, hEb⟩ : ∃ Eb : Nat, z + 52 + 1023 = (Eb : Int) := ⟨(z + 52 + 1023).toNat, by omega⟩
                    obtain ⟨fr, hfr⟩ : ∃ fr, fr = N % 4503599627370496 := ⟨_, rfl⟩
                    have hand : bits .and .u64 (N : Int) 4503599627370495 = (fr : Int) := by rw [hfr]; exact and_64 N 52 4503599627370495 (by decide) (by decide) (by omega) _ _ rfl rfl
                    obtain ⟨S1, hS1⟩ : ∃ S1, S1 = Eb * 4503599627370496 := ⟨_, rfl⟩
                    have hEb2 : Eb < 2048 := by omega
                    have hsh : (Eb : Int) * 4503599627370496 = (S1 : Int) := by omega
                    obtain ⟨out, hout⟩ : ∃ out, out = S1 + fr := ⟨_, rfl⟩
                    have hor : bits .or .u64 (S1 : Int) (fr : Int) = (out : Int) := by rw [hout]; exact or_64 S1 fr 52 (by omega) (by omega) (by omega) _ _ rfl rfl
                    obtain ⟨out2, hout2⟩ : ∃ out2, out2 = out + 9223372036854775808 := ⟨_, rfl⟩
                    have hor2 : bits .or .u64 (out : Int) 9223372036854775808 = (out2 : Int) := by rw [hout2]; exact or_64r 9223372036854775808 out 63 (by omega) (by decide) (by omega)
                    have HPk := Lib.hid (show packB n M2 y = if n = true then out2 else out by
                      have h1 : (y + (M2.log2 : Int) + 1023).toNat = Eb := by omega
                      unfold packB
                      rw [h1, ← hje, ← hNo]
                      cases n
                      · simp only [Bool.false_eq_true, if_false]; omega
                      · simp only [if_true]; omega)
                    have hS1l : S1 < 9223372036854775808 := by omega
                    have c0 := HD5.out.c 0 rfl
                    clear hNo hz s1 hfr hS1 hout hout2 hje
                    cases n
                    all_goals
                      go_wp2
                      go_ret2
                      refine ⟨?_, HB5.out⟩
                      rw [HN.out, HPk.out]
                      rfl
      · have de : decide ((0 : Int) < e) = false := by simpa using hep
        have hMF : M = F := by
          rw [hFf, fives]
          split
          · rw [HM.out, HQ.out]
          · rw [HM.out, show k = 0 from by have := HQ.out; omega, show e.toNat = 0 from by omega]; simp
        have HD2 := HD
        have HB2 := HB
        clear hFf hFl hFo hok HF HRR c0
        subst hMF
        go_wp2
        go_loopw [4, 5] (fun v x wr => L2I o t n C e w v x wr) (fun _ x _ => (X - intOf x).toNat)
        case atStart => exact ⟨t, M, e, rfl, rfl, HFo.out, Nat.le_refl _, by omega, HD2.out, HB2.out⟩
        case round =>
          obtain ⟨k2, M2, y, rfl, rfl, hM2, hk2, hy, hD3, hB3⟩ := hrel
          have hM2l : M2 < lim := by
            refine Nat.lt_of_le_of_lt ?_ HFl.out
            rw [hM2, HFo.out]
            exact Nat.mul_le_mul_left _ (Nat.pow_le_pow_right (by decide) hk2)
          have HDj := Lib.hid (fun W => rdiv_is M2 2 W hM2l (by decide) (by decide))
          obtain ⟨ev1, ev2⟩ := even_step (o := o) (k := k2) Hho.out
          rw [← hM2] at ev1 ev2
          have HY := Lib.hid hy
          have HD3 := Lib.hid hD3
          have HB3 := Lib.hid hB3
          have hyb1 : -200 ≤ y := by omega
          have hyb2 : y ≤ 1000 := by omega
          obtain ⟨r2, hr2⟩ : ∃ r2, r2 = M2 % 2 := ⟨_, rfl⟩
          rw [← hr2] at HDj
          clear hD3 hB3
          by_cases hk0 : 0 < k2
          · have hri2 : ((r2 : Int) != 0) = false := by have := ev1.2 hk0; simp; omega
            have HE2 := Lib.hid (ev2 hk0)
            clear hM2 hM2l ev1 ev2 hr2 hy
            go_wp2_with (go_at_call 39; refine (HDj.out _).mono ?_; rintro r w4 ⟨rfl, hb4⟩)
            go_roundw
            case rel => exact ⟨k2 - 1, M2 / 2, y + 1, rfl, rfl, HE2.out, by omega, by rw [HY.out]; omega, HD3.out.below hb4, below_next HB3.out hb4⟩
            case measure => have := HY.out; have := HXh.out; simp [intOf]; omega
          · obtain rfl : k2 = 0 := by omega
            obtain rfl : M2 = o := by rw [hM2]; simp
            obtain rfl : y = X := by rw [hy, HXh.out]; omega
            have hri2 : ((r2 : Int) != 0) = true := by have := Hho.out; simp; omega
            have hol := hM2l
            clear hM2 hM2l ev1 ev2 hr2 hy
            by_cases hbig : 18446744073709551616 ≤ M2
            · have HTo := Lib.hid (fun W => rTo_big (decB M2) W (isNat_B hol) (by rw [dv_B]; exact hbig))
              have HN := Lib.hid (show RR = none by rw [HR2.out, packR, if_pos (by omega)])
              go_wp2_with (first
                | (go_at_call 39; refine (HDj.out _).mono ?_; rintro r w4 ⟨rfl, hb4⟩)
                | (go_at_call 40; refine (HTo.out _).mono ?_; rintro r w5 ⟨rfl, hb5⟩))
              go_ret2
              exact ⟨by rw [HN.out]; rfl, below_next (below_next HB3.out hb4) hb5⟩
            · have HTo := Lib.hid (fun W => rTo_yes (decB M2) W (isNat_B hol) (by rw [dv_B]; omega))
              rw [dv_B] at HTo
              by_cases h53 : 9007199254740992 ≤ M2
              · have HN := Lib.hid (show RR = none by rw [HR2.out, packR, if_pos h53])
                have d53 : decide ((9007199254740992 : Int) ≤ (M2 : Int)) = true := by simp; omega
                have d53b : decide (9007199254740992 ≤ M2) = true := by simpa using h53
                go_wp2_with (first
                  | (go_at_call 39; refine (HDj.out _).mono ?_; rintro r w4 ⟨rfl, hb4⟩)
                  | (go_at_call 40; refine (HTo.out _).mono ?_; rintro r w5 ⟨rfl, hb5⟩))
                go_ret2
                exact ⟨by rw [HN.out]; rfl, below_next (below_next HB3.out hb4) hb5⟩
              · have HN := Lib.hid (show RR = some (packB n M2 y) by rw [HR2.out, packR, if_neg h53])
                have d53 : decide ((9007199254740992 : Int) ≤ (M2 : Int)) = false := by simp; omega
                have d53b : decide (9007199254740992 ≤ M2) = false := by simpa using h53
                obtain ⟨hx1, hx2⟩ := HX2.out (by omega)
                have hlg : M2.log2 ≤ 52 := by
                  have := (Nat.log2_lt ho0).2 (show M2 < 2 ^ 53 by rw [show (2 : Nat) ^ 53 = 9007199254740992 from by decide]; omega)
                  omega
                go_wp2_with (first
                  | (go_at_call 39; refine (HDj.out _).mono ?_; rintro r w4 ⟨rfl, hb4⟩)
                  | (go_at_call 40; refine (HTo.out _).mono ?_; rintro r w5 ⟨rfl, hb5⟩))
                have HD5 := Lib.hid ((HD3.out.below hb4).below hb5)
                have HB5 := Lib.hid (below_next (below_next HB3.out hb4) hb5)
                clear hb4 hb5
                go_loop [5, 13] (fun x m => L3I M2 y x m) (fun _ m => (9007199254740992 - intOf m).toNat)
                case atStart => exact ⟨0, M2, y, rfl, rfl, by simp, by omega, by omega⟩
                case round =>
                  obtain ⟨j, N, z, rfl, rfl, hNo, hj, hz⟩ := hrel
                  obtain ⟨s1, s2, s3⟩ := shift_lt ho0 hj
                  rw [← hNo] at s1 s2 s3
                  have hzb1 : -1000 ≤ z := by omega
                  have hzb2 : z ≤ 1000 := by omega
                  by_cases hj2 : j + M2.log2 < 52
                  · have hN2 := s1.2 hj2
                    have dN2 : decide ((N : Int) < 4503599627370496) = true := by simp; omega
                    have dN3 : decide (N < 4503599627370496) = true := by simpa using hN2
                    obtain ⟨N2, hN2e⟩ : ∃ N2, N2 = 2 * N := ⟨_, rfl⟩
                    have hN2i : 2 * (N : Int) = (N2 : Int) := by omega
                    have HE := Lib.hid (show N2 = M2 * 2 ^ (j + 1) by rw [hN2e, hNo, Nat.pow_succ, Nat.mul_comm 2, Nat.mul_assoc])
                    have HZ := Lib.hid hz
                    have Hgt := Lib.hid (show N < N2 by omega)
                    clear hNo hz s1 hN2e
                    go_wp2
                    go_round
                    case rel => exact ⟨j + 1, N2, z - 1, rfl, rfl, HE.out, by omega, by rw [HZ.out]; omega⟩
                    case measure => have := Hgt.out; simp [intOf]; omega
                  · have hN2 : ¬ N < 4503599627370496 := fun h => hj2 (s1.1 h)
                    have dN2 : decide ((N : Int) < 4503599627370496) = false := by simp; omega
                    have dN3 : decide (N < 4503599627370496) = false := by simpa using hN2
                    have hje : j = 52 - M2.log2 := by omega
                    obtain ⟨Eb, hEb⟩ : ∃ Eb : Nat, z + 52 + 1023 = (Eb : Int) := ⟨(z + 52 + 1023).toNat, by omega⟩
                    obtain ⟨fr, hfr⟩ : ∃ fr, fr = N % 4503599627370496 := ⟨_, rfl⟩
                    have hand : bits .and .u64 (N : Int) 4503599627370495 = (fr : Int) := by rw [hfr]; exact and_64 N 52 4503599627370495 (by decide) (by decide) (by omega) _ _ rfl rfl
                    obtain ⟨S1, hS1⟩ : ∃ S1, S1 = Eb * 4503599627370496 := ⟨_, rfl⟩
                    have hEb2 : Eb < 2048 := by omega
                    have hsh : (Eb : Int) * 4503599627370496 = (S1 : Int) := by omega
                    obtain ⟨out, hout⟩ : ∃ out, out = S1 + fr := ⟨_, rfl⟩
                    have hor : bits .or .u64 (S1 : Int) (fr : Int) = (out : Int) := by rw [hout]; exact or_64 S1 fr 52 (by omega) (by omega) (by omega) _ _ rfl rfl
                    obtain ⟨out2, hout2⟩ : ∃ out2, out2 = out + 9223372036854775808 := ⟨_, rfl⟩
                    have hor2 : bits .or .u64 (out : Int) 9223372036854775808 = (out2 : Int) := by rw [hout2]; exact or_64r 9223372036854775808 out 63 (by omega) (by decide) (by omega)
                    have HPk := Lib.hid (show packB n M2 y = if n = true then out2 else out by
                      have h1 : (y + (M2.log2 : Int) + 1023).toNat = Eb := by omega
                      unfold packB
                      rw [h1, ← hje, ← hNo]
                      cases n
                      · simp only [Bool.false_eq_true, if_false]; omega
                      · simp only [if_true]; omega)
                    have hS1l : S1 < 9223372036854775808 := by omega
                    have c0 := HD5.out.c 0 rfl
                    clear hNo hz s1 hfr hS1 hout hout2 hje
                    cases n
                    all_goals
                      go_wp2
                      go_ret2
                      refine ⟨?_, HB5.out⟩
                      rw [HN.out, HPk.out]
                      rfl
end Go.Proofs.YtgcalhnfoakggaaGreatDoor
