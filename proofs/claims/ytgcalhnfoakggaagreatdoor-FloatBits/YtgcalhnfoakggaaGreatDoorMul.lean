/- The walks of Mul and Of. -/
import Derived.Test.YtgcalhnfoakggaaGreatDoorOps
import Derived.Test.YtgcalhnfoakggaaGreatDoorMulW
import Derived.Test.YtgcalhnfoakggaaGreatDoorTxt
namespace Go.Proofs.YtgcalhnfoakggaaGreatDoor
open Go.RowKit
open Go.Lib (decDigits)

set_option maxRecDepth 100000 in
set_option maxHeartbeats 2000000 in
theorem Mul_yes (sa sb : ByteArray) (w : World) (ha : isNat sa.data.toList = true) (hb : isNat sb.data.toList = true) (htab : Tab w) :
    Calls Tryz.prog 47 #[.string sa, .string sb] w (TellPost (dv sa.data.toList * dv sb.data.toList) w) := by
  have HT := Lib.hid htab
  clear htab
  have HA := Lib.hid ha
  have HB := Lib.hid hb
  clear ha hb
  go_enter Tryz.func47, Tryz.ntmps47
  go_wp2_with (go_at_call 66; refine (readAll_yes sa sb w.heap.size _ (by simp) (by simp) (by simp) HA.out HB.out).mono ?_; rintro e w1 ⟨g, cap, hcap, rfl, ⟨R1, v1, R2, v2, hc0, hc1, hg, h1, h2⟩, hb1⟩)
  obtain ⟨hl1, hd1, hn1, hv1, hr1⟩ := h1
  obtain ⟨hl2, hd2, hn2, hv2, hr2⟩ := h2
  obtain ⟨a1, c1, rfl⟩ := hl1.shape
  obtain ⟨a2, c2, rfl⟩ := hl2.shape
  have HL1 := Lib.hid hl1
  have HL2 := Lib.hid hl2
  have HV1 := Lib.hid hv1
  have HV2 := Lib.hid hv2
  have hb0 : Below w.heap.size w w1 := ((Below.refl _ w).alloc (Nat.le_refl _) _).trans (hb1.mono (by simp))
  have HB1 := Lib.hid hb0
  clear hl1 hl2 hv1 hv2 hb1 hb0
  have hbd : Below w1.heap.size w1 w1.drew := (Below.refl _ _).drew
  have HL1' := Lib.hid (HL1.out.below hbd)
  have HL2' := Lib.hid (HL2.out.below hbd)
  have HB2 := Lib.hid (HB1.out.drew)
  have HT2 := Lib.hid (HT.out.below HB2.out)
  go_region_with (first
    | (go_at_call 67; refine (mul_calls _ _ R1 R2 _ (by omega) (by omega) HL1'.out HL2'.out hd1 hd2).mono ?_; rintro e w3 ⟨R3, v3, rfl, hl3, hd3, hn3, hv3, hr3, hb3⟩; have HL3 := Lib.hid hl3; have HV3 := Lib.hid hv3; have HT3 := Lib.hid (HT2.out.below hb3); clear hl3 hv3)
    | (go_at_call 65; refine (tell_calls R3 _ _ (by omega) HL3.out hd3 hn3 HT3.out).mono ?_; rintro e w4 ⟨rfl, hb4⟩))
  all_goals go_wp2
  all_goals go_ret2
  all_goals exact ⟨by rw [HV3.out, HV1.out, HV2.out]; rfl, (HB2.out.trans (hb3.mono HB2.out.size)).trans (hb4.mono (by have := hb3.size; have := HB2.out.size; omega))⟩

set_option maxRecDepth 100000 in
set_option maxHeartbeats 1000000 in
theorem Mul_no (sa sb : ByteArray) (w : World) (hab : (isNat sa.data.toList && isNat sb.data.toList) = false) :
    Calls Tryz.prog 47 #[.string sa, .string sb] w fun e w' => e = .returned (.tuple #[.string ⟨#[]⟩, .int .i64 10]) ∧ Below w.heap.size w w' := by
  have HAB := Lib.hid hab
  clear hab
  go_enter Tryz.func47, Tryz.ntmps47
  go_wp2_with (go_at_call 66; refine (readAll_no sa sb w.heap.size _ (by simp) (by simp) (by simp) HAB.out).mono ?_; rintro e w1 ⟨rfl, hb1⟩)
  go_ret2
  exact ⟨rfl, ((Below.refl _ w).alloc (Nat.le_refl _) _).trans (hb1.mono (by simp))⟩

set_option maxRecDepth 100000 in
theorem Of_calls (n : Nat) (w : World) (hn : n < 18446744073709551616) (htab : Tab w) :
    Calls Tryz.prog 48 #[.int .u64 (n : Int)] w fun e w' => e = .returned (.string ⟨(decDigits n).toArray⟩) ∧ Below w.heap.size w w' := by
  have HT := Lib.hid htab
  clear htab
  go_enter Tryz.func48, Tryz.ntmps48
  go_wp2_with (go_at_call 68; refine (formatUint_calls n hn _ HT.out).mono ?_; rintro e w1 ⟨rfl, hb1⟩)
  go_ret
  exact ⟨rfl, hb1⟩
end Go.Proofs.YtgcalhnfoakggaaGreatDoor
