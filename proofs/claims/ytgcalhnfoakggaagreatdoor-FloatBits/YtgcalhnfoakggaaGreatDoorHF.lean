/- The program's own: decimal, ToDec. -/
import Derived.Test.YtgcalhnfoakggaaGreatDoorHD
import Derived.Test.YtgcalhnfoakggaaGreatDoorE3
import Derived.Test.YtgcalhnfoakggaaGreatDoorMul
import Derived.Test.YtgcalhnfoakggaaGreatDoorPow
import Derived.Test.YtgcalhnfoakggaaGreatDoorBts
namespace Go.Proofs.YtgcalhnfoakggaaGreatDoor
open Go.RowKit
open Go.Lib (decDigits nDigits)

theorem isNat_B {n : Nat} (h : n < lim) : isNat (decB n).data.toList = true := by rw [decB_data]; exact isNat_dec h
theorem dv_B (n : Nat) : dv (decB n).data.toList = n := by rw [decB_data, dv_dec]
theorem outB {n : Nat} (h : n < lim) : (⟨(outS n).toArray⟩ : ByteArray) = decB n ∧ outE n = 0 := ⟨by rw [outS_lim h]; rfl, outE_lim h⟩
theorem five_lim {o n E : Nat} (hE : E = 400) (ho : o < 2 ^ 53) (hn : n ≤ E) : o * 5 ^ n < lim := by
  have h1 : 2 ^ 53 ≤ 2 ^ E := Nat.pow_le_pow_right (by decide) (by omega)
  have h2 : 5 ^ n ≤ 5 ^ E := Nat.pow_le_pow_right (by decide) hn
  have h3 : o * 5 ^ n < 2 ^ E * 5 ^ E := Nat.mul_lt_mul_of_lt_of_le (Nat.lt_of_lt_of_le ho h1) h2 (Nat.pow_pos (by decide))
  rw [← Nat.mul_pow] at h3
  exact lt_lim (k := E) (by omega) (by omega) h3
theorem two_five (n : Nat) : 2 ^ n ≤ 5 ^ n := Nat.pow_le_pow_left (by decide) n
theorem base_lim {b o n : Nat} (hb : b = 2 ∨ b = 5) (ho : o < 2 ^ 53) (hn : n ≤ 400) : o * b ^ n < lim := by
  obtain ⟨E, hE⟩ : ∃ E, E = 400 := ⟨_, rfl⟩
  have h := five_lim hE ho (by omega : n ≤ E)
  rcases hb with rfl | rfl
  · exact Nat.lt_of_le_of_lt (Nat.mul_le_mul_left _ (two_five n)) h
  · exact h

theorem pow_is (b n : Nat) (w : World) (hb : b = 2 ∨ b = 5) (hn : n ≤ 400) (hT : Tab w) : Calls Tryz.prog 46 #[.int .u32 (b : Int), .int .i64 (n : Int)] w fun e w' => e = .returned (.tuple #[.string (decB (b ^ n)), .int .i64 0]) ∧ Below w.heap.size w w' := by
  have h := base_lim (o := 1) hb (by decide) hn
  rw [Nat.one_mul] at h
  refine (Power_yes b n w (by omega) hn hT).mono ?_
  rintro e w' ⟨rfl, hw⟩
  rw [(outB h).1, (outB h).2]
  exact ⟨rfl, hw⟩
theorem mul_is (a b : Nat) (w : World) (ha : a < lim) (hb : b < lim) (h : a * b < lim) (hT : Tab w) : Calls Tryz.prog 47 #[.string (decB a), .string (decB b)] w fun e w' => e = .returned (.tuple #[.string (decB (a * b)), .int .i64 0]) ∧ Below w.heap.size w w' := by
  refine (Mul_yes (decB a) (decB b) w (isNat_B ha) (isNat_B hb) hT).mono ?_
  rintro e w' ⟨rfl, hw⟩
  rw [dv_B, dv_B, (outB h).1, (outB h).2]
  exact ⟨rfl, hw⟩
theorem u64_lim {o : Nat} (h : o < 18446744073709551616) : o < lim := lt_lim (k := 20) (by decide) (by decide) (Nat.lt_trans h (by decide))
theorem decB_400 {n : Nat} (h : n < lim) : (decB n).size ≤ 400 := by rw [decB_len]; exact (lim_iff n).2 h
def z3D : Array Value := #[.bool false, .string ⟨#[]⟩, .int .i64 0]

set_option maxRecDepth 100000 in
set_option maxHeartbeats 400000 in
theorem decimal_walk (n : Bool) (o : Nat) (X : Int) (b : Nat) (q : Nat) (x : Int) (P D : ByteArray) (R : Option (Bool × Nat × Int)) (w : World) (hT : Tab w)
    (hX1 : -2000 ≤ X) (hX2 : X ≤ 2000) (hcase : (X = (q : Int) ∧ b = 2 ∧ x = 0) ∨ (X < 0 ∧ X = -(q : Int) ∧ b = 5 ∧ X = x))
    (hP : ∀ W, Tab W → Calls Tryz.prog 46 #[.int .u32 (b : Int), .int .i64 (q : Int)] W fun e w' => e = .returned (.tuple #[.string P, .int .i64 0]) ∧ Below W.heap.size W w')
    (hO : ∀ W, Tab W → Calls Tryz.prog 48 #[.int .u64 (o : Int)] W fun e w' => e = .returned (.string (decB o)) ∧ Below W.heap.size W w')
    (hM : ∀ W, Tab W → Calls Tryz.prog 47 #[.string (decB o), .string P] W fun e w' => e = .returned (.tuple #[.string D, .int .i64 0]) ∧ Below W.heap.size W w')
    (hK : ∀ W, Calls Tryz.prog 49 #[.bool n, .string D, .int .i64 x] W (DecP R W)) :
    Calls Tryz.prog 30 #[.agg #[.int .u64 (o : Int), .int .i64 X], .bool n] w (DecP R w) := by
  have HP := Lib.hid hP
  have HO := Lib.hid hO
  have HM := Lib.hid hM
  have HK := Lib.hid hK
  have HT := Lib.hid hT
  clear hP hO hM hK hT
  have B0 := Lib.hid (below_al (below_al (Below.refl _ w) (.cells #[.int .u64 (o : Int), .int .i64 X] 57)) (.cells #[.bool false, .string ⟨#[]⟩, .int .i64 0] 34))
  have V0 := Lib.hid ((At.new w #[.int .u64 (o : Int), .int .i64 X] 57).alloc (.cells #[.bool false, .string ⟨#[]⟩, .int .i64 0] 34))
  have D0 := Lib.hid (At.new1 w (.cells #[.int .u64 (o : Int), .int .i64 X] 57) #[.bool false, .string ⟨#[]⟩, .int .i64 0] 34)
  obtain ⟨W0, hW0⟩ : ∃ W0, W0 = (w.alloc (.cells #[.int .u64 (o : Int), .int .i64 X] 57)).alloc (.cells #[.bool false, .string ⟨#[]⟩, .int .i64 0] 34) := ⟨_, rfl⟩
  rw [← hW0] at B0 V0 D0
  rcases hcase with ⟨rfl, rfl, rfl⟩ | ⟨hneg, hq, rfl, rfl⟩
  · have d1 : decide ((q : Int) < 0) = false := by simp
    go_enter Tryz.func30, Tryz.ntmps30
    go_wp2
    rw [← hW0]
    clear hW0
    have c1 := V0.out.c 1 rfl
    go_quiet (fail)
    go_wp2_with fail
    have V1 := Lib.hid (show At (W0.drewN nq) _ _ _ from (At.below V0.out (below_drewN (Below.refl _ _) nq)))
    have D1 := Lib.hid (show At (W0.drewN nq) _ _ _ from (At.below D0.out (below_drewN (Below.refl _ _) nq)))
    have B1 := Lib.hid (below_drewN B0.out nq)
    clear V0 D0 B0 c1
    refine (HP.out _ (HT.out.below B1.out)).mono ?_
    rintro o w2 ⟨rfl, hb2⟩
    have V2 := Lib.hid (V1.out.below hb2)
    have D2 := Lib.hid (D1.out.below hb2)
    have B2 := Lib.hid (below_next B1.out hb2)
    clear hb2 V1 D1 B1
    have c0 := V2.out.c 0 rfl
    go_wp2_with fail
    refine (HO.out _ (HT.out.below B2.out)).mono ?_
    rintro o w3 ⟨rfl, hb3⟩
    have D3 := Lib.hid (D2.out.below hb3)
    have B3 := Lib.hid (below_next B2.out hb3)
    clear hb3 V2 D2 B2 c0
    go_wp2_with fail
    refine (HM.out _ (HT.out.below B3.out)).mono ?_
    rintro o w4 ⟨rfl, hb4⟩
    have D4 := Lib.hid (D3.out.below hb4)
    have B4 := Lib.hid (below_next B3.out hb4)
    clear hb4 D3 B3
    go_wp2_with fail
    refine (HK.out _).mono ?_
    rintro o w5 ⟨rfl, hb5⟩
    have D5 := Lib.hid (D4.out.below hb5)
    have B5 := Lib.hid (below_next B4.out hb5)
    clear hb5 D4 B4
    have c0 := D5.out.c 0 rfl
    have c1 := D5.out.c 1 rfl
    have c2 := D5.out.c 2 rfl
    have f0 := D5.out.f 0
    have f1 := D5.out.f 1
    have f2 := D5.out.f 2
    have hz := D5.out.lt
    go_wp2
    refine bodyPost_ret (v := .tuple #[.agg #[.bool (dN R), .string (dS R), .int .i64 (dX R)], .int .i64 (decE R)]) (by simp [results, Tryz.results30, go_sem, c0, c1, c2]) rfl ?_
    exact ⟨rfl, below3 B5.out (by omega) _ _ _⟩
  · have d1 : decide (X < 0) = true := by simpa using hneg
    have hwn : IntKind.i64.wrap (-X) = (q : Int) := (IntWalk.i64_in _ (by omega)).trans (by omega)
    clear hq
    go_enter Tryz.func30, Tryz.ntmps30
    go_wp2
    rw [← hW0]
    clear hW0
    have c1 := V0.out.c 1 rfl
    go_quiet (fail)
    have V0b := Lib.hid (show At (W0.drewN nq) _ _ _ from (At.below V0.out (below_drewN (Below.refl _ _) nq)))
    have D0b := Lib.hid (show At (W0.drewN nq) _ _ _ from (At.below D0.out (below_drewN (Below.refl _ _) nq)))
    have B0b := Lib.hid (below_drewN B0.out nq)
    clear V0 D0 B0 c1
    obtain ⟨W1, hW1⟩ : ∃ W1, W1 = W0.drewN nq := ⟨_, rfl⟩
    rw [← hW1] at V0b D0b B0b ⊢
    clear hW1
    have c1 := V0b.out.c 1 rfl
    go_wp2
    go_quiet (fail)
    go_wp2_with fail
    have V1 := Lib.hid (show At (W1.drewN nq) _ _ _ from (At.below V0b.out (below_drewN (Below.refl _ _) nq)))
    have D1 := Lib.hid (show At (W1.drewN nq) _ _ _ from (At.below D0b.out (below_drewN (Below.refl _ _) nq)))
    have B1 := Lib.hid (below_drewN B0b.out nq)
    clear V0b D0b B0b c1
    refine (HP.out _ (HT.out.below B1.out)).mono ?_
    rintro o w2 ⟨rfl, hb2⟩
    have V2 := Lib.hid (V1.out.below hb2)
    have D2 := Lib.hid (D1.out.below hb2)
    have B2 := Lib.hid (below_next B1.out hb2)
    clear hb2 V1 D1 B1
    have c0 := V2.out.c 0 rfl
    go_wp2_with fail
    refine (HO.out _ (HT.out.below B2.out)).mono ?_
    rintro o w3 ⟨rfl, hb3⟩
    have D3 := Lib.hid (D2.out.below hb3)
    have B3 := Lib.hid (below_next B2.out hb3)
    clear hb3 V2 D2 B2 c0
    go_wp2_with fail
    refine (HM.out _ (HT.out.below B3.out)).mono ?_
    rintro o w4 ⟨rfl, hb4⟩
    have D4 := Lib.hid (D3.out.below hb4)
    have B4 := Lib.hid (below_next B3.out hb4)
    clear hb4 D3 B3
    go_wp2_with fail
    refine (HK.out _).mono ?_
    rintro o w5 ⟨rfl, hb5⟩
    have D5 := Lib.hid (D4.out.below hb5)
    have B5 := Lib.hid (below_next B4.out hb5)
    clear hb5 D4 B4
    have c0 := D5.out.c 0 rfl
    have c1 := D5.out.c 1 rfl
    have c2 := D5.out.c 2 rfl
    have f0 := D5.out.f 0
    have f1 := D5.out.f 1
    have f2 := D5.out.f 2
    have hz := D5.out.lt
    go_wp2
    refine bodyPost_ret (v := .tuple #[.agg #[.bool (dN R), .string (dS R), .int .i64 (dX R)], .int .i64 (decE R)]) (by simp [results, Tryz.results30, go_sem, c0, c1, c2]) rfl ?_
    exact ⟨rfl, below3 B5.out (by omega) _ _ _⟩

set_option maxRecDepth 100000 in
set_option maxHeartbeats 400000 in
theorem decimal_far (n : Bool) (o : Nat) (X : Int) (b : Nat) (q : Nat) (x : Int) (w : World) (hq4 : 400 < q)
    (hX1 : -2000 ≤ X) (hX2 : X ≤ 2000) (hcase : (X = (q : Int) ∧ b = 2 ∧ x = 0) ∨ (X < 0 ∧ X = -(q : Int) ∧ b = 5 ∧ X = x)) :
    Calls Tryz.prog 30 #[.agg #[.int .u64 (o : Int), .int .i64 X], .bool n] w (DecP none w) := by
  have HP := Lib.hid (fun W => Power_no b (q : Int) W (.inr (by omega)))
  have B0 := Lib.hid (below_al (below_al (Below.refl _ w) (.cells #[.int .u64 (o : Int), .int .i64 X] 57)) (.cells #[.bool false, .string ⟨#[]⟩, .int .i64 0] 34))
  have V0 := Lib.hid ((At.new w #[.int .u64 (o : Int), .int .i64 X] 57).alloc (.cells #[.bool false, .string ⟨#[]⟩, .int .i64 0] 34))
  have D0 := Lib.hid (At.new1 w (.cells #[.int .u64 (o : Int), .int .i64 X] 57) #[.bool false, .string ⟨#[]⟩, .int .i64 0] 34)
  obtain ⟨W0, hW0⟩ : ∃ W0, W0 = (w.alloc (.cells #[.int .u64 (o : Int), .int .i64 X] 57)).alloc (.cells #[.bool false, .string ⟨#[]⟩, .int .i64 0] 34) := ⟨_, rfl⟩
  rw [← hW0] at B0 V0 D0
  rcases hcase with ⟨rfl, rfl, rfl⟩ | ⟨hneg, hq, rfl, rfl⟩
  · have d1 : decide ((q : Int) < 0) = false := by simp
    go_enter Tryz.func30, Tryz.ntmps30
    go_wp2
    rw [← hW0]
    clear hW0
    have c1 := V0.out.c 1 rfl
    go_quiet (fail)
    go_wp2_with fail
    have V1 := Lib.hid (show At (W0.drewN nq) _ _ _ from (At.below V0.out (below_drewN (Below.refl _ _) nq)))
    have D1 := Lib.hid (show At (W0.drewN nq) _ _ _ from (At.below D0.out (below_drewN (Below.refl _ _) nq)))
    have B1 := Lib.hid (below_drewN B0.out nq)
    clear V0 D0 B0 c1
    refine (HP.out _).mono ?_
    rintro o w2 ⟨rfl, hb2⟩
    have D5 := Lib.hid (D1.out.below hb2)
    have B5 := Lib.hid (below_next B1.out hb2)
    clear hb2 V1 D1 B1
    have c0 := D5.out.c 0 rfl
    have c1 := D5.out.c 1 rfl
    have c2 := D5.out.c 2 rfl
    have f0 := D5.out.f 0
    have f1 := D5.out.f 1
    have f2 := D5.out.f 2
    have hz := D5.out.lt
    go_wp2
    refine bodyPost_ret (v := .tuple #[.agg #[.bool false, .string ⟨#[]⟩, .int .i64 0], .int .i64 40]) (by simp [results, Tryz.results30, go_sem, c0, c1, c2]) rfl ?_
    exact ⟨rfl, below3 B5.out (by omega) _ _ _⟩
  · have d1 : decide (X < 0) = true := by simpa using hneg
    have hwn : IntKind.i64.wrap (-X) = (q : Int) := (IntWalk.i64_in _ (by omega)).trans (by omega)
    clear hq
    go_enter Tryz.func30, Tryz.ntmps30
    go_wp2
    rw [← hW0]
    clear hW0
    have c1 := V0.out.c 1 rfl
    go_quiet (fail)
    have V0b := Lib.hid (show At (W0.drewN nq) _ _ _ from (At.below V0.out (below_drewN (Below.refl _ _) nq)))
    have D0b := Lib.hid (show At (W0.drewN nq) _ _ _ from (At.below D0.out (below_drewN (Below.refl _ _) nq)))
    have B0b := Lib.hid (below_drewN B0.out nq)
    clear V0 D0 B0 c1
    obtain ⟨W1, hW1⟩ : ∃ W1, W1 = W0.drewN nq := ⟨_, rfl⟩
    rw [← hW1] at V0b D0b B0b ⊢
    clear hW1
    have c1 := V0b.out.c 1 rfl
    go_wp2
    go_quiet (fail)
    go_wp2_with fail
    have V1 := Lib.hid (show At (W1.drewN nq) _ _ _ from (At.below V0b.out (below_drewN (Below.refl _ _) nq)))
    have D1 := Lib.hid (show At (W1.drewN nq) _ _ _ from (At.below D0b.out (below_drewN (Below.refl _ _) nq)))
    have B1 := Lib.hid (below_drewN B0b.out nq)
    clear V0b D0b B0b c1
    refine (HP.out _).mono ?_
    rintro o w2 ⟨rfl, hb2⟩
    have D5 := Lib.hid (D1.out.below hb2)
    have B5 := Lib.hid (below_next B1.out hb2)
    clear hb2 V1 D1 B1
    have c0 := D5.out.c 0 rfl
    have c1 := D5.out.c 1 rfl
    have c2 := D5.out.c 2 rfl
    have f0 := D5.out.f 0
    have f1 := D5.out.f 1
    have f2 := D5.out.f 2
    have hz := D5.out.lt
    go_wp2
    refine bodyPost_ret (v := .tuple #[.agg #[.bool false, .string ⟨#[]⟩, .int .i64 0], .int .i64 40]) (by simp [results, Tryz.results30, go_sem, c0, c1, c2]) rfl ?_
    exact ⟨rfl, below3 B5.out (by omega) _ _ _⟩

theorem decimal_calls (n : Bool) (o : Nat) (X : Int) (w : World) (ho : o < 2 ^ 53) (hodd : o % 2 ≠ 0 ∨ (o = 0 ∧ X = 0)) (hX1 : -2000 ≤ X) (hX2 : X ≤ 2000) (hT : Tab w) :
    Calls Tryz.prog 30 #[vlV (o, X), .bool n] w (DecP (decW n (o, X)) w) := by
  have ho64 : o < 18446744073709551616 := Nat.lt_trans ho (by decide)
  rw [decW]
  by_cases hneg : X < 0
  · rw [if_neg (by simp only; omega)]
    obtain ⟨q, hq⟩ : ∃ q : Nat, X = -(q : Int) := ⟨(-X).toNat, by omega⟩
    simp only [show (-X).toNat = q from by omega]
    have ho2 : o % 2 ≠ 0 := by rcases hodd with h | ⟨_, h⟩; exact h; omega
    by_cases h4 : 400 < q
    · rw [hq, far_five ho2 h4, ← hq]
      exact decimal_far n o X 5 q X w h4 hX1 hX2 (.inr ⟨hneg, hq, rfl, rfl⟩)
    · have hl := base_lim (b := 5) (.inr rfl) ho (by omega : q ≤ 400)
      have hl1 := base_lim (b := 5) (o := 1) (.inr rfl) (by decide) (by omega : q ≤ 400)
      rw [Nat.one_mul] at hl1
      refine decimal_walk n o X 5 q X (decB (5 ^ q)) (decB (o * 5 ^ q)) _ w hT hX1 hX2 (.inr ⟨hneg, hq, rfl, rfl⟩) (fun W h => pow_is 5 q W (.inr rfl) (by omega) h) (fun W h => Of_calls o W ho64 h)
        (fun W h => mul_is o (5 ^ q) W (u64_lim ho64) hl1 hl h) (fun W => ?_)
      have := pMake_calls n (decB (o * 5 ^ q)) X W (decB_400 hl)
      rw [decB_data] at this
      exact this
  · rw [if_pos (by simp only; omega)]
    obtain ⟨q, hq⟩ : ∃ q : Nat, X = (q : Int) := ⟨X.toNat, by omega⟩
    simp only [show X.toNat = q from by omega]
    by_cases h4 : 400 < q
    · have ho2 : o % 2 ≠ 0 := by rcases hodd with h | ⟨_, h⟩; exact h; omega
      rw [far_two ho2 ho h4]
      exact decimal_far n o X 2 q 0 w h4 hX1 hX2 (.inl ⟨hq, rfl, rfl⟩)
    · have hl := base_lim (b := 2) (.inl rfl) ho (by omega : q ≤ 400)
      have hl1 := base_lim (b := 2) (o := 1) (.inl rfl) (by decide) (by omega : q ≤ 400)
      rw [Nat.one_mul] at hl1
      refine decimal_walk n o X 2 q 0 (decB (2 ^ q)) (decB (o * 2 ^ q)) _ w hT hX1 hX2 (.inl ⟨hq, rfl, rfl⟩) (fun W h => pow_is 2 q W (.inl rfl) (by omega) h) (fun W h => Of_calls o W ho64 h)
        (fun W h => mul_is o (2 ^ q) W (u64_lim ho64) hl1 hl h) (fun W => ?_)
      have := pMake_calls n (decB (o * 2 ^ q)) 0 W (decB_400 hl)
      rw [decB_data] at this
      exact this
end Go.Proofs.YtgcalhnfoakggaaGreatDoor
