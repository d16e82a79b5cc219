/- The program's own: ToDec. -/
import Derived.Test.YtgcalhnfoakggaaGreatDoorHF
namespace Go.Proofs.YtgcalhnfoakggaaGreatDoor
open Go.RowKit
open Go.Lib (decDigits nDigits)

/-- The listed tables. -/
def Tf (w : World) : Prop := Tw w ∧ Tab w
theorem Tf.below {A B : World} (h : Tf A) (hb : Below A.heap.size A B) : Tf B := ⟨h.1.below hb, h.2.below hb⟩
/-- What ToDec tells. -/
def tdR (a : Nat) : Option (Bool × Nat × Int) := if isFin a = true then decOf a else none
def tdE (a : Nat) : Int := if isFin a = true then decE (decOf a) else 50
def TdP (a : Nat) (w : World) (o : Ending) (w' : World) : Prop := o = .returned (.tuple #[.agg #[.bool (dN (tdR a)), .string (dS (tdR a)), .int .i64 (dX (tdR a))], .int .i64 (tdE a)]) ∧ Below w.heap.size w w'

theorem sgn_ne {a : Nat} (ha : a < 18446744073709551616) : (((a / 2 ^ 52 / 2 ^ 11 : Nat) : Int) != 0) = sgnN a := by
  rw [sgnN, e52, show (2 : Nat) ^ 11 = 2048 from by decide, Bool.eq_iff_iff]
  simp
  omega

set_option maxRecDepth 100000 in
set_option maxHeartbeats 400000 in
theorem ToDec_walk (a s e f : Nat) (V : Nat × Int) (n fin : Bool) (R : Option (Bool × Nat × Int)) (w : World) (hT : Tf w) (hs : ((s : Int) != 0) = n)
    (hI : ∀ W, Tf W → Calls Tryz.prog 16 #[.int .u64 (a : Int)] W fun o w' => o = .returned (.bool fin) ∧ Below W.heap.size W w')
    (hS : ∀ W, Calls Tryz.prog 27 #[.agg #[.int .i64 11, .int .i64 52, .int .i64 64], .int .u64 (a : Int)] W fun o w' => o = .returned (.tuple #[.int .u64 (s : Int), .int .u64 (e : Int), .int .u64 (f : Int)]) ∧ Below W.heap.size W w')
    (hV : ∀ W, Tf W → Calls Tryz.prog 29 #[.agg #[.int .i64 11, .int .i64 52, .int .i64 64], .int .u64 (e : Int), .int .u64 (f : Int)] W fun o w' => o = .returned (vlV V) ∧ Below W.heap.size W w')
    (hD : ∀ W, Tf W → Calls Tryz.prog 30 #[vlV V, .bool n] W (DecP R W)) :
    Calls Tryz.prog 18 #[.int .u64 (a : Int)] w fun o w' => o = .returned (if fin = true then .tuple #[.agg #[.bool (dN R), .string (dS R), .int .i64 (dX R)], .int .i64 (decE R)] else .tuple #[.agg #[.bool false, .string ⟨#[]⟩, .int .i64 0], .int .i64 50]) ∧ Below w.heap.size w w' := by
  have HI := Lib.hid hI
  have HS := Lib.hid hS
  have HV := Lib.hid hV
  have HD := Lib.hid hD
  have HT := Lib.hid hT
  clear hI hS hV hD hT
  have B0 := Lib.hid (below_al (Below.refl _ w) (.cells #[.bool false, .string ⟨#[]⟩, .int .i64 0] 34))
  have D0 := Lib.hid (At.new w #[.bool false, .string ⟨#[]⟩, .int .i64 0] 34)
  go_enter Tryz.func18, Tryz.ntmps18
  go_wp2_with fail
  refine (HI.out _ (HT.out.below B0.out)).mono ?_
  rintro o w1 ⟨rfl, hb1⟩
  have D1 := Lib.hid (D0.out.below hb1)
  have B1 := Lib.hid (below_next B0.out hb1)
  clear hb1 D0 B0
  cases fin
  · have c0 := D1.out.c 0 rfl
    have c1 := D1.out.c 1 rfl
    have c2 := D1.out.c 2 rfl
    have f0 := D1.out.f 0
    have f1 := D1.out.f 1
    have f2 := D1.out.f 2
    have hz := D1.out.lt
    go_wp2
    refine bodyPost_ret (v := .tuple #[.agg #[.bool false, .string ⟨#[]⟩, .int .i64 0], .int .i64 50]) (by simp [results, Tryz.results18, go_sem, c0, c1, c2]) rfl ?_
    exact ⟨rfl, below3 B1.out (Nat.le_refl _) _ _ _⟩
  · go_wp2_with fail
    refine (widest_calls _ (HT.out.below B1.out).1.1).mono ?_
    rintro o w2 ⟨rfl, hb2⟩
    have D2 := Lib.hid (D1.out.below hb2)
    have B2 := Lib.hid (below_next B1.out hb2)
    clear hb2 D1 B1
    unfold fmV
    go_wp2_with fail
    refine (HS.out _).mono ?_
    rintro o w3 ⟨rfl, hb3⟩
    have D3 := Lib.hid (D2.out.below hb3)
    have B3 := Lib.hid (below_next B2.out hb3)
    clear hb3 D2 B2
    go_wp2_with fail
    refine (widest_calls _ (HT.out.below B3.out).1.1).mono ?_
    rintro o w4 ⟨rfl, hb4⟩
    have D4 := Lib.hid (D3.out.below hb4)
    have B4 := Lib.hid (below_next B3.out hb4)
    clear hb4 D3 B3
    unfold fmV
    go_wp2_with fail
    refine (HV.out _ (HT.out.below B4.out)).mono ?_
    rintro o w5 ⟨rfl, hb5⟩
    have D5 := Lib.hid (D4.out.below hb5)
    have B5 := Lib.hid (below_next B4.out hb5)
    clear hb5 D4 B4
    go_wp2_with fail
    refine (HD.out _ (HT.out.below B5.out)).mono ?_
    rintro o w6 ⟨rfl, hb6⟩
    have D6 := Lib.hid (D5.out.below hb6)
    have B6 := Lib.hid (below_next B5.out hb6)
    clear hb6 D5 B5
    have c0 := D6.out.c 0 rfl
    have c1 := D6.out.c 1 rfl
    have c2 := D6.out.c 2 rfl
    have f0 := D6.out.f 0
    have f1 := D6.out.f 1
    have f2 := D6.out.f 2
    have hz := D6.out.lt
    go_wp2
    refine bodyPost_ret (v := .tuple #[.agg #[.bool (dN R), .string (dS R), .int .i64 (dX R)], .int .i64 (decE R)]) (by simp [results, Tryz.results18, go_sem, c0, c1, c2]) rfl ?_
    exact ⟨rfl, below3 B6.out (Nat.le_refl _) _ _ _⟩

theorem ToDec_calls (a : Nat) (w : World) (ha : a < 18446744073709551616) (hT : Tf w) : Calls Tryz.prog 18 #[.int .u64 (a : Int)] w (TdP a w) := by
  have h11 : (2 : Nat) ^ 11 = 2048 := by decide
  have hF : IsF 11 52 64 (-1074) := .inr (.inr ⟨rfl, rfl, rfl, rfl⟩)
  have hfp : a % 2 ^ 52 < 2 ^ 52 := Nat.mod_lt _ (Nat.pow_pos (by decide))
  have hval : valP 52 (-1074) (a / 2 ^ 52 % 2 ^ 11) (a % 2 ^ 52) = valP 52 (-1074) (a / 4503599627370496 % 2048) (a % 4503599627370496) := by rw [e52, h11]
  obtain ⟨o, X, hoX, ho, hX1, hX2, hodd⟩ := val_bounds a
  have key := ToDec_walk a (a / 2 ^ 52 / 2 ^ 11) (a / 2 ^ 52 % 2 ^ 11) (a % 2 ^ 52) (o, X) (sgnN a) (isFin a) (decOf a) w hT (sgn_ne ha) (fun W h => IsFinite_calls a W ha h.1)
    (fun W => split_calls 11 52 64 (-1074) a W hF ha)
    (fun W h => by
      have := value_calls 11 52 64 (-1074) (a / 2 ^ 52 % 2 ^ 11) (a % 2 ^ 52) W hF (by rw [h11]; exact Nat.mod_lt _ (by decide)) hfp h.1.2
      rw [hval, hoX] at this
      exact this)
    (fun W h => by
      have := decimal_calls (sgnN a) o X W ho hodd (by omega) (by omega) h.2
      rw [← hoX, dec_val] at this
      rw [← hoX]
      exact this)
  refine key.mono ?_
  rintro r w' ⟨rfl, hw⟩
  refine ⟨?_, hw⟩
  rw [tdR, tdE]
  cases isFin a <;> rfl
end Go.Proofs.YtgcalhnfoakggaaGreatDoor
