/- The program's own: timesFives. -/
import Derived.Test.YtgcalhnfoakggaaGreatDoorHF
namespace Go.Proofs.YtgcalhnfoakggaaGreatDoor
open Go.RowKit
open Go.Lib (decDigits nDigits)

theorem div_is (a : Nat) (w : World) (ha : a < lim) (hT : Tab w) : Calls Tryz.prog 74 #[.string (decB a), .int .u32 5] w fun e w' => e = .returned (.tuple #[.string (decB (a / 5)), .int .u32 ((a % 5 : Nat) : Int), .int .i64 0]) ∧ Below w.heap.size w w' := by
  have h : a / 5 < lim := Nat.lt_of_le_of_lt (Nat.div_le_self _ _) ha
  refine (Div_yes (decB a) 5 w (isNat_B ha) (by decide) (by decide) hT).mono ?_
  rintro e w' ⟨rfl, hw⟩
  rw [dv_B, (outB h).1, (outB h).2]
  exact ⟨rfl, hw⟩

/-- What timesFives tells. -/
def tfB (c : Nat) (e : Int) : Bool := !(decide (e < 0) && decide (c % 5 ^ (-e).toNat ≠ 0))
def tfS (c : Nat) (e : Int) : ByteArray := if tfB c e = true then decB (fives c e) else ⟨#[]⟩

def fvV (c q : Nat) : Value := if c % 5 ^ q = 0 then .tuple #[.string (decB (c / 5 ^ q)), .bool true] else .tuple #[.string ⟨#[]⟩, .bool false]
def FvI (c q : Nat) (w : World) (v i : Value) (wr : World) : Prop := ∃ (k m : Nat), i = .int .i64 k ∧ k ≤ q ∧ v = .string (decB m) ∧ m = c / 5 ^ k ∧ 5 ^ k ∣ c ∧ Below w.heap.size w wr
theorem five_step {c i : Nat} (h : 5 ^ i ∣ c) : c / 5 ^ i % 5 = 0 ↔ 5 ^ (i + 1) ∣ c := by
  obtain ⟨d, hd⟩ := h
  have hp : 0 < 5 ^ i := Nat.pow_pos (by decide)
  rw [hd, Nat.mul_div_cancel_left _ hp, Nat.pow_succ]
  constructor
  · intro h1
    obtain ⟨e, he⟩ := Nat.dvd_of_mod_eq_zero h1
    exact ⟨e, by rw [he, Nat.mul_assoc]⟩
  · rintro ⟨e, he⟩
    rw [Nat.mul_assoc] at he
    rw [Nat.eq_of_mul_eq_mul_left hp he]
    exact Nat.mul_mod_right _ _

set_option maxRecDepth 100000 in
set_option maxHeartbeats 400000 in
theorem fives_pos (c q : Nat) (w : World) (hq : q ≤ 400) (hc : c < lim) (h : c * 5 ^ q < lim) (hT : Tab w) :
    Calls Tryz.prog 56 #[.string (decB c), .int .i64 (q : Int)] w fun e w' => e = .returned (.tuple #[.string (decB (c * 5 ^ q)), .bool true]) ∧ Below w.heap.size w w' := by
  have h5 := base_lim (b := 5) (o := 1) (.inr rfl) (by decide) hq
  rw [Nat.one_mul] at h5
  have HP := Lib.hid (fun W h => pow_is 5 q W (.inr rfl) hq h)
  have HM := Lib.hid (fun W hW => mul_is c (5 ^ q) W hc h5 h hW)
  have HT := Lib.hid hT
  have d1 : decide ((0 : Int) ≤ (q : Int)) = true := by simp
  clear h hT h5 hc
  obtain ⟨C, hC⟩ : ∃ C, C = decB c := ⟨_, rfl⟩
  obtain ⟨P, hP⟩ : ∃ P, P = decB (5 ^ q) := ⟨_, rfl⟩
  obtain ⟨D, hD⟩ : ∃ D, D = decB (c * 5 ^ q) := ⟨_, rfl⟩
  rw [← hP] at HP
  rw [← hC, ← hP, ← hD] at HM
  rw [← hC, ← hD]
  clear hC hP hD
  go_enter Tryz.func56, Tryz.ntmps56
  go_wp2_with fail
  refine (HP.out _ HT.out).mono ?_
  rintro o w1 ⟨rfl, hb1⟩
  have B1 := Lib.hid hb1
  clear hb1
  go_wp2_with fail
  refine (HM.out _ (HT.out.below B1.out)).mono ?_
  rintro o w2 ⟨rfl, hb2⟩
  have B2 := Lib.hid (below_next B1.out hb2)
  clear hb2
  go_wp2
  go_ret2
  exact ⟨rfl, B2.out⟩

set_option maxRecDepth 100000 in
set_option maxHeartbeats 400000 in
theorem fives_neg (c q : Nat) (w : World) (hq0 : 0 < q) (hq : q ≤ 400) (hc : c < lim) (hT : Tab w) :
    Calls Tryz.prog 56 #[.string (decB c), .int .i64 (-(q : Int))] w fun e w' => e = .returned (fvV c q) ∧ Below w.heap.size w w' := by
  have HT := Lib.hid hT
  have HCl := Lib.hid hc
  have hnn : - -(q : Int) = (q : Int) := by omega
  have d1 : decide (q = 0) = false := by simp; omega
  have d2 : ¬ q = 0 := by omega
  clear hT hc
  go_enter Tryz.func56, Tryz.ntmps56
  go_wp2
  go_loopw [0, 29] (fun v i wr => FvI c q w v i wr)
    (fun _ i _ => q - (intOf i).toNat)
  case atStart => exact ⟨0, c, rfl, Nat.zero_le _, rfl, by simp, by simp, Below.refl _ _⟩
  case round =>
    obtain ⟨k, m, rfl, hk, rfl, hm, hdv, hB⟩ := hrel
    have hml : m < lim := by rw [hm]; exact Nat.lt_of_le_of_lt (Nat.div_le_self _ _) HCl.out
    have HB := Lib.hid hB
    have HM := Lib.hid hm
    have HDv := Lib.hid hdv
    have HDi := Lib.hid (fun W h => div_is m W hml h)
    clear hB hm hdv hml
    by_cases hlt : k < q
    · obtain ⟨r, hr⟩ : ∃ r, r = m % 5 := ⟨_, rfl⟩
      rw [← hr] at HDi
      by_cases h0 : r = 0
      · have HN := Lib.hid ((five_step HDv.out).1 (by rw [← HM.out]; omega))
        have hri : ((r : Int) != 0) = false := by rw [h0]; rfl
        clear hr h0
        go_wp2_with (go_at_call 74; refine (HDi.out _ (HT.out.below HB.out)).mono ?_; rintro o w1 ⟨rfl, hb1⟩)
        go_roundw
        case rel => exact ⟨k + 1, m / 5, by go_num, by omega, rfl, by rw [HM.out, Nat.div_div_eq_div_mul, Nat.pow_succ], HN.out, below_next HB.out hb1⟩
        case measure => simp [intOf]; omega
      · have hb0 : ((r : Int) != 0) = true := by simpa using h0
        have HN := Lib.hid (show ¬ c % 5 ^ q = 0 from fun h => h0 (by
          rw [hr, HM.out]
          refine (five_step HDv.out).2 (Nat.dvd_trans (Nat.pow_dvd_pow 5 (by omega)) (Nat.dvd_of_mod_eq_zero h))))
        clear hr
        go_wp2_with (go_at_call 74; refine (HDi.out _ (HT.out.below HB.out)).mono ?_; rintro o w1 ⟨rfl, hb1⟩)
        go_ret2
        exact ⟨by rw [fvV, if_neg HN.out]; rfl, below_next HB.out hb1⟩
    · obtain rfl : k = q := by omega
      go_wp2
      go_ret2
      refine ⟨?_, HB.out⟩
      rw [fvV, if_pos (Nat.mod_eq_zero_of_dvd HDv.out), ← HM.out]
      rfl
theorem times_calls (c : Nat) (e : Int) (w : World) (he1 : -100 ≤ e) (he2 : e ≤ 100) (hc : c < lim) (h : 0 ≤ e → c * 5 ^ e.toNat < lim) (hT : Tab w) :
    Calls Tryz.prog 56 #[.string (decB c), .int .i64 e] w fun o w' => o = .returned (.tuple #[.string (tfS c e), .bool (tfB c e)]) ∧ Below w.heap.size w w' := by
  by_cases hneg : e < 0
  · obtain ⟨q, hq⟩ : ∃ q : Nat, e = -(q : Int) := ⟨(-e).toNat, by omega⟩
    have hqn : (-e).toNat = q := by omega
    have hd : decide (e < 0) = true := by simpa using hneg
    refine ((by rw [hq]; exact fives_neg c q w (by omega) (by omega) hc hT : Calls Tryz.prog 56 #[.string (decB c), .int .i64 e] w fun o w' => o = .returned (fvV c q) ∧ Below w.heap.size w w')).mono ?_
    rintro o w' ⟨rfl, hw⟩
    refine ⟨?_, hw⟩
    rw [fvV]
    by_cases h0 : c % 5 ^ q = 0
    · have hb : tfB c e = true := by rw [tfB, hd, hqn, show decide (c % 5 ^ q ≠ 0) = false from by simpa using h0]; rfl
      rw [if_pos h0, tfS, hb, if_pos rfl, fives, if_pos hneg, hqn]
    · have hb : tfB c e = false := by rw [tfB, hd, hqn, show decide (c % 5 ^ q ≠ 0) = true from by simpa using h0]; rfl
      rw [if_neg h0, tfS, hb, if_neg (by decide)]
  · obtain ⟨q, hq⟩ : ∃ q : Nat, e = (q : Int) := ⟨e.toNat, by omega⟩
    have hb : tfB c e = true := by rw [tfB, show decide (e < 0) = false from by simpa using hneg]; rfl
    rw [tfS, hb, if_pos rfl, fives, if_neg hneg]
    have h2 := h (by omega)
    subst hq
    rw [Int.toNat_natCast] at h2 ⊢
    exact fives_pos c q w (by omega) hc h2 hT
end Go.Proofs.YtgcalhnfoakggaaGreatDoor
