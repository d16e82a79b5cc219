/- The walks of Compare, Add and Sub. -/
import Derived.Test.YtkdbiilpnijocaaDoorRAll
import Derived.Test.YtkdbiilpnijocaaDoorW3
import Derived.Test.YtkdbiilpnijocaaDoorAdd
import Derived.Test.YtkdbiilpnijocaaDoorTell
import Derived.StillTailTactics
import Derived.Deep.RegionWith
namespace Go.Proofs.YtkdbiilpnijocaaDoor
open Go.RowKit

set_option maxRecDepth 100000 in
set_option maxHeartbeats 1000000 in
theorem Compare_yes (sa sb : ByteArray) (w : World) (ha : isNat sa.data.toList = true) (hb : isNat sb.data.toList = true) :
    Calls Tryd.prog 13 #[.string sa, .string sb] w fun e w' => e = .returned (.tuple #[.int .i64 (cmpI (dv sa.data.toList) (dv sb.data.toList)), .int .i64 0]) ∧ Below w.heap.size w w' := by
  have HA := Lib.hid ha
  have HB := Lib.hid hb
  clear ha hb
  go_enter Tryd.func13, Tryd.ntmps13
  go_wp2_with (go_at_call 35; refine (readAll_yes sa sb w.heap.size _ (by simp) (by simp) (by simp) HA.out HB.out).mono ?_; rintro e w1 ⟨g, cap, hcap, rfl, ⟨R1, v1, R2, v2, hc0, hc1, hg, h1, h2⟩, hb1⟩)
  obtain ⟨hl1, hd1, hn1, hv1, hr1⟩ := h1
  obtain ⟨hl2, hd2, hn2, hv2, hr2⟩ := h2
  obtain ⟨a1, c1, rfl⟩ := hl1.shape
  obtain ⟨a2, c2, rfl⟩ := hl2.shape
  have HL1 := Lib.hid hl1
  have HL2 := Lib.hid hl2
  have HV1 := Lib.hid hv1
  have HV2 := Lib.hid hv2
  have hb0 : Below w.heap.size w w1 := ((Below.refl _ w).alloc (Nat.le_refl _) _).trans (hb1.mono (by simp))
  have HB1 := Lib.hid hb0
  clear hl1 hl2 hv1 hv2 hb1 hb0
  go_still_tail 6, (by kernel_rfl)
  change wpList _ _ _ _ _ w1.drew
  have hbd : Below w1.heap.size w1 w1.drew := (Below.refl _ _).drew
  have HL1' := Lib.hid (HL1.out.below hbd)
  have HL2' := Lib.hid (HL2.out.below hbd)
  have HB2 := Lib.hid (HB1.out.drew)
  clear HL1 HL2 HB1 hbd hc0 hc1 hg
  generalize w1.drew = w2 at HL1' HL2' HB2 ⊢
  go_wp2_with (go_at_call 36; refine (compare_calls _ _ R1 R2 _ (by omega) HL1'.out HL2'.out hd1 hd2 hn1 hn2).mono ?_; rintro e w3 ⟨rfl, hb3⟩)
  go_ret2
  exact ⟨by rw [HV1.out, HV2.out]; rfl, HB2.out.trans (hb3.mono HB2.out.size)⟩

set_option maxRecDepth 100000 in
set_option maxHeartbeats 1000000 in
theorem Compare_no (sa sb : ByteArray) (w : World) (hab : (isNat sa.data.toList && isNat sb.data.toList) = false) :
    Calls Tryd.prog 13 #[.string sa, .string sb] w fun e w' => e = .returned (.tuple #[.int .i64 0, .int .i64 10]) ∧ Below w.heap.size w w' := by
  have HAB := Lib.hid hab
  clear hab
  go_enter Tryd.func13, Tryd.ntmps13
  go_wp2_with (go_at_call 35; refine (readAll_no sa sb w.heap.size _ (by simp) (by simp) (by simp) HAB.out).mono ?_; rintro e w1 ⟨rfl, hb1⟩)
  go_ret2
  exact ⟨rfl, ((Below.refl _ w).alloc (Nat.le_refl _) _).trans (hb1.mono (by simp))⟩

set_option maxRecDepth 100000 in
set_option maxHeartbeats 1000000 in
theorem Add_yes (sa sb : ByteArray) (w : World) (ha : isNat sa.data.toList = true) (hb : isNat sb.data.toList = true) (htab : Tab w) :
    Calls Tryd.prog 15 #[.string sa, .string sb] w (TellPost (dv sa.data.toList + dv sb.data.toList) w) := by
  have HT := Lib.hid htab
  clear htab
  have HA := Lib.hid ha
  have HB := Lib.hid hb
  clear ha hb
  go_enter Tryd.func15, Tryd.ntmps15
  go_wp2_with (go_at_call 35; refine (readAll_yes sa sb w.heap.size _ (by simp) (by simp) (by simp) HA.out HB.out).mono ?_; rintro e w1 ⟨g, cap, hcap, rfl, ⟨R1, v1, R2, v2, hc0, hc1, hg, h1, h2⟩, hb1⟩)
  obtain ⟨hl1, hd1, hn1, hv1, hr1⟩ := h1
  obtain ⟨hl2, hd2, hn2, hv2, hr2⟩ := h2
  obtain ⟨a1, c1, rfl⟩ := hl1.shape
  obtain ⟨a2, c2, rfl⟩ := hl2.shape
  have HL1 := Lib.hid hl1
  have HL2 := Lib.hid hl2
  have HV1 := Lib.hid hv1
  have HV2 := Lib.hid hv2
  have hb0 : Below w.heap.size w w1 := ((Below.refl _ w).alloc (Nat.le_refl _) _).trans (hb1.mono (by simp))
  have HB1 := Lib.hid hb0
  clear hl1 hl2 hv1 hv2 hb1 hb0
  have hbd : Below w1.heap.size w1 w1.drew := (Below.refl _ _).drew
  have HL1' := Lib.hid (HL1.out.below hbd)
  have HL2' := Lib.hid (HL2.out.below hbd)
  have HB2 := Lib.hid (HB1.out.drew)
  have HT2 := Lib.hid (HT.out.below HB2.out)
  go_region_with (first
    | (go_at_call 39; refine (add_calls _ _ R1 R2 _ (by omega) (by omega) HL1'.out HL2'.out hd1 hd2).mono ?_; rintro e w3 ⟨R3, v3, rfl, hl3, hd3, hn3, hv3, hr3, hb3⟩; have HL3 := Lib.hid hl3; have HV3 := Lib.hid hv3; have HT3 := Lib.hid (HT2.out.below hb3); clear hl3 hv3)
    | (go_at_call 38; refine (tell_calls R3 _ _ (by omega) HL3.out hd3 hn3 HT3.out).mono ?_; rintro e w4 ⟨rfl, hb4⟩))
  all_goals go_wp2
  all_goals go_ret2
  all_goals exact ⟨by rw [HV3.out, HV1.out, HV2.out]; rfl, (HB2.out.trans (hb3.mono HB2.out.size)).trans (hb4.mono (by have := hb3.size; have := HB2.out.size; omega))⟩

set_option maxRecDepth 100000 in
set_option maxHeartbeats 1000000 in
theorem Add_no (sa sb : ByteArray) (w : World) (hab : (isNat sa.data.toList && isNat sb.data.toList) = false) :
    Calls Tryd.prog 15 #[.string sa, .string sb] w fun e w' => e = .returned (.tuple #[.string ⟨#[]⟩, .int .i64 10]) ∧ Below w.heap.size w w' := by
  have HAB := Lib.hid hab
  clear hab
  go_enter Tryd.func15, Tryd.ntmps15
  go_wp2_with (go_at_call 35; refine (readAll_no sa sb w.heap.size _ (by simp) (by simp) (by simp) HAB.out).mono ?_; rintro e w1 ⟨rfl, hb1⟩)
  go_ret2
  exact ⟨rfl, ((Below.refl _ w).alloc (Nat.le_refl _) _).trans (hb1.mono (by simp))⟩

set_option maxRecDepth 100000 in
set_option maxHeartbeats 1000000 in
theorem Sub_no (sa sb : ByteArray) (w : World) (hab : (isNat sa.data.toList && isNat sb.data.toList) = false) :
    Calls Tryd.prog 17 #[.string sa, .string sb] w fun e w' => e = .returned (.tuple #[.string ⟨#[]⟩, .int .i64 10]) ∧ Below w.heap.size w w' := by
  have HAB := Lib.hid hab
  clear hab
  go_enter Tryd.func17, Tryd.ntmps17
  go_wp2_with (go_at_call 35; refine (readAll_no sa sb w.heap.size _ (by simp) (by simp) (by simp) HAB.out).mono ?_; rintro e w1 ⟨rfl, hb1⟩)
  go_quiet (fail)
  go_wp2
  go_ret2
  exact ⟨rfl, below_drewN (((Below.refl _ w).alloc (Nat.le_refl _) _).trans (hb1.mono (by simp))) _⟩

set_option maxRecDepth 100000 in
set_option maxHeartbeats 1000000 in
theorem Sub_lt (sa sb : ByteArray) (w : World) (ha : isNat sa.data.toList = true) (hb : isNat sb.data.toList = true) (hlt : dv sa.data.toList < dv sb.data.toList) :
    Calls Tryd.prog 17 #[.string sa, .string sb] w fun e w' => e = .returned (.tuple #[.string ⟨#[]⟩, .int .i64 10]) ∧ Below w.heap.size w w' := by
  have HLT := Lib.hid hlt
  clear hlt
  have HA := Lib.hid ha
  have HB := Lib.hid hb
  clear ha hb
  go_enter Tryd.func17, Tryd.ntmps17
  go_wp2_with (go_at_call 35; refine (readAll_yes sa sb w.heap.size _ (by simp) (by simp) (by simp) HA.out HB.out).mono ?_; rintro e w1 ⟨g, cap, hcap, rfl, ⟨R1, v1, R2, v2, hc0, hc1, hg, h1, h2⟩, hb1⟩)
  obtain ⟨hl1, hd1, hn1, hv1, hr1⟩ := h1
  obtain ⟨hl2, hd2, hn2, hv2, hr2⟩ := h2
  obtain ⟨a1, c1, rfl⟩ := hl1.shape
  obtain ⟨a2, c2, rfl⟩ := hl2.shape
  have HL1 := Lib.hid hl1
  have HL2 := Lib.hid hl2
  have HV1 := Lib.hid hv1
  have HV2 := Lib.hid hv2
  have hb0 : Below w.heap.size w w1 := ((Below.refl _ w).alloc (Nat.le_refl _) _).trans (hb1.mono (by simp))
  have HB1 := Lib.hid hb0
  clear hl1 hl2 hv1 hv2 hb1 hb0
  have hcv : cmpI (val R1 : Int) (val R2 : Int) = -1 := by rw [HV1.out, HV2.out]; have := HLT.out; exact cmpI_lt (by omega)
  go_still_tail 9, (by kernel_rfl)
  change wpList _ _ _ _ _ w1.drew
  have hbd : Below w1.heap.size w1 w1.drew := (Below.refl _ _).drew
  have HL1' := Lib.hid (HL1.out.below hbd)
  have HL2' := Lib.hid (HL2.out.below hbd)
  have HB2 := Lib.hid (HB1.out.drew)
  have hgd : g < w1.drew.heap.size := hg
  have hc0' : w1.drew.cell? ⟨g, 0, none⟩ = some (.slice a1 R1.length c1) := hc0
  have hc1' : w1.drew.cell? ⟨g, 1, none⟩ = some (.slice a2 R2.length c2) := hc1
  clear HL1 HL2 HB1 hbd hc0 hc1 hg
  generalize w1.drew = w2 at HL1' HL2' HB2 hgd hc0' hc1' ⊢
  go_wp2_with (go_at_call 36; refine (compare_calls _ _ R1 R2 _ (by omega) HL1'.out HL2'.out hd1 hd2 hn1 hn2).mono ?_; rintro e w3 ⟨rfl, hb3⟩)
  go_ret2
  exact ⟨rfl, HB2.out.trans (hb3.mono HB2.out.size)⟩

set_option maxRecDepth 100000 in
set_option maxHeartbeats 1000000 in
theorem Sub_yes (sa sb : ByteArray) (w : World) (ha : isNat sa.data.toList = true) (hb : isNat sb.data.toList = true) (hle : dv sb.data.toList ≤ dv sa.data.toList) (htab : Tab w) :
    Calls Tryd.prog 17 #[.string sa, .string sb] w (TellPost (dv sa.data.toList - dv sb.data.toList) w) := by
  have HLE := Lib.hid hle
  have HT := Lib.hid htab
  clear hle htab
  have HA := Lib.hid ha
  have HB := Lib.hid hb
  clear ha hb
  go_enter Tryd.func17, Tryd.ntmps17
  go_wp2_with (go_at_call 35; refine (readAll_yes sa sb w.heap.size _ (by simp) (by simp) (by simp) HA.out HB.out).mono ?_; rintro e w1 ⟨g, cap, hcap, rfl, ⟨R1, v1, R2, v2, hc0, hc1, hg, h1, h2⟩, hb1⟩)
  obtain ⟨hl1, hd1, hn1, hv1, hr1⟩ := h1
  obtain ⟨hl2, hd2, hn2, hv2, hr2⟩ := h2
  obtain ⟨a1, c1, rfl⟩ := hl1.shape
  obtain ⟨a2, c2, rfl⟩ := hl2.shape
  have HL1 := Lib.hid hl1
  have HL2 := Lib.hid hl2
  have HV1 := Lib.hid hv1
  have HV2 := Lib.hid hv2
  have hb0 : Below w.heap.size w w1 := ((Below.refl _ w).alloc (Nat.le_refl _) _).trans (hb1.mono (by simp))
  have HB1 := Lib.hid hb0
  clear hl1 hl2 hv1 hv2 hb1 hb0
  have hcv : decide (cmpI (val R1 : Int) (val R2 : Int) < 0) = false := by
    rw [HV1.out, HV2.out]; have := HLE.out
    simp only [cmpI]
    split
    · omega
    · split <;> rfl
  go_still_tail 9, (by kernel_rfl)
  change wpList _ _ _ _ _ w1.drew
  have hbd : Below w1.heap.size w1 w1.drew := (Below.refl _ _).drew
  have HL1' := Lib.hid (HL1.out.below hbd)
  have HL2' := Lib.hid (HL2.out.below hbd)
  have HB2 := Lib.hid (HB1.out.drew)
  have hgd : g < w1.drew.heap.size := hg
  have hc0' : w1.drew.cell? ⟨g, 0, none⟩ = some (.slice a1 R1.length c1) := hc0
  have hc1' : w1.drew.cell? ⟨g, 1, none⟩ = some (.slice a2 R2.length c2) := hc1
  clear HL1 HL2 HB1 hbd hc0 hc1 hg
  generalize w1.drew = w2 at HL1' HL2' HB2 hgd hc0' hc1' ⊢
  go_wp2_with (go_at_call 36; refine (compare_calls _ _ R1 R2 _ (by omega) HL1'.out HL2'.out hd1 hd2 hn1 hn2).mono ?_; rintro e w3 ⟨rfl, hb3⟩)
  have hc03 := (hb3.cell (p := ⟨g, 0, none⟩) hgd).trans hc0'
  have hc13 := (hb3.cell (p := ⟨g, 1, none⟩) hgd).trans hc1'
  have HL13 := Lib.hid ((HL1'.out.below hb3).below ((Below.refl _ w3).drew))
  have HL23 := Lib.hid ((HL2'.out.below hb3).below ((Below.refl _ w3).drew))
  have HB3 := Lib.hid (HB2.out.trans (hb3.mono HB2.out.size)).drew
  have HT3 := Lib.hid (HT.out.below HB3.out)
  have HLE2 : Hid (val R2 ≤ val R1) := by show val R2 ≤ val R1; rw [HV1.out, HV2.out]; exact HLE.out
  clear HL1' HL2' hgd hc0' hc1' hb3 HB2 hcv
  go_region_with (first
    | (go_at_call 42; refine (sub_calls _ _ R1 R2 _ (by omega) (by omega) HL13.out HL23.out hd1 hd2 hn2 HLE2.out).mono ?_; rintro e w5 ⟨R3, v3, rfl, hl3, hd3, hn3, hv3, hr3, hb5⟩; have HL3 := Lib.hid hl3; have HV3 := Lib.hid hv3; have HT5 := Lib.hid (HT3.out.below hb5); clear hl3 hv3)
    | (go_at_call 38; refine (tell_calls R3 _ _ (by omega) HL3.out hd3 hn3 HT5.out).mono ?_; rintro e w6 ⟨rfl, hb6⟩))
  all_goals go_wp2
  all_goals go_ret2
  all_goals exact ⟨by rw [HV3.out, HV1.out, HV2.out]; rfl, (HB3.out.trans (hb5.mono HB3.out.size)).trans (hb6.mono (by have := hb5.size; have := HB3.out.size; omega))⟩
end Go.Proofs.YtkdbiilpnijocaaDoor
