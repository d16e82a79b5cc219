/- The walks of shown and cut. -/
import Derived.Test.YtkdbiilpnijocaaDoorTxt
import Derived.Test.YtkdbiilpnijocaaDoorOps
import Derived.Test.YtkdbiilpnijocaaDoorPow
import Derived.Test.YtkdbiilpnijocaaDoorBts
namespace Go.Proofs.YtkdbiilpnijocaaDoor
open Go.RowKit
open Go.Lib (decDigits)

theorem Add_999 (w : World) (htab : Tab w) : Calls Tryd.prog 15 #[.string ⟨#[57, 57, 57]⟩, .string ⟨#[49]⟩] w fun e w' => e = .returned (.tuple #[.string ⟨#[49, 48, 48, 48]⟩, .int .i64 0]) ∧ Below w.heap.size w w' :=
  (Add_yes ⟨#[57, 57, 57]⟩ ⟨#[49]⟩ w (by decide) (by decide) htab).mono fun e w' h => by
    obtain ⟨h1, h2⟩ := h
    rw [show dv (ByteArray.mk #[57, 57, 57]).data.toList + dv (ByteArray.mk #[49]).data.toList = 1000 from by decide, outS_lim (lt_lim (n := 1000) (k := 4) (by omega) (by omega) (by omega)), outE_lim (lt_lim (n := 1000) (k := 4) (by omega) (by omega) (by omega))] at h1
    exact ⟨by rw [h1, show decDigits 1000 = [49, 48, 48, 48] from by simp [decDigits]]; rfl, h2⟩
theorem Add_01 (w : World) : Calls Tryd.prog 15 #[.string ⟨#[48, 49]⟩, .string ⟨#[49]⟩] w fun e w' => e = .returned (.tuple #[.string ⟨#[]⟩, .int .i64 10]) ∧ Below w.heap.size w w' :=
  Add_no ⟨#[48, 49]⟩ ⟨#[49]⟩ w (by decide)
theorem Div_7 (w : World) (htab : Tab w) : Calls Tryd.prog 23 #[.string ⟨#[55]⟩, .int .u32 2] w fun e w' => e = .returned (.tuple #[.string ⟨#[51]⟩, .int .u32 1, .int .i64 0]) ∧ Below w.heap.size w w' :=
  (Div_yes ⟨#[55]⟩ 2 w (by decide) (by omega) (by omega) htab).mono fun e w' h => by
    obtain ⟨h1, h2⟩ := h
    rw [show dv (ByteArray.mk #[55]).data.toList = 7 from by decide, outS_lim (lt_lim (n := 7 / 2) (k := 1) (by omega) (by omega) (by omega)), outE_lim (lt_lim (n := 7 / 2) (k := 1) (by omega) (by omega) (by omega))] at h1
    exact ⟨by rw [h1, show decDigits (7 / 2) = [51] from by simp [decDigits]]; rfl, h2⟩
theorem Power_1024 (w : World) (htab : Tab w) : Calls Tryd.prog 25 #[.int .u32 2, .int .i64 10] w fun e w' => e = .returned (.tuple #[.string ⟨#[49, 48, 50, 52]⟩, .int .i64 0]) ∧ Below w.heap.size w w' :=
  (Power_yes 2 10 w (by omega) (by omega) htab).mono fun e w' h => by
    obtain ⟨h1, h2⟩ := h
    rw [show 2 ^ 10 = 1024 from by decide, outS_lim (lt_lim (n := 1024) (k := 4) (by omega) (by omega) (by omega)), outE_lim (lt_lim (n := 1024) (k := 4) (by omega) (by omega) (by omega))] at h1
    exact ⟨by rw [h1, show decDigits 1024 = [49, 48, 50, 52] from by simp [decDigits]]; rfl, h2⟩
theorem Bytes_256 (w : World) : Calls Tryd.prog 27 #[.string ⟨#[50, 53, 54]⟩] w fun e w' => e = .returned (.tuple #[.string ⟨#[1, 0]⟩, .int .i64 0]) ∧ Below w.heap.size w w' :=
  (Bytes_yes ⟨#[50, 53, 54]⟩ w (by decide)).mono fun e w' h => by
    obtain ⟨h1, h2⟩ := h
    rw [show dv (ByteArray.mk #[50, 53, 54]).data.toList = 256 from by decide, byteL_pos (by omega), show 256 / 256 = 1 from rfl, byteL_pos (by omega), show 1 / 256 = 0 from rfl, byteL_zero] at h1
    exact ⟨h1, h2⟩

set_option maxRecDepth 100000 in
set_option maxHeartbeats 1000000 in
theorem shown_calls (w : World) (htab : Tab w) : Calls Tryd.prog 11 #[] w fun e w' => e = .returned (.bool true) ∧ Below w.heap.size w w' := by
  have HT := Lib.hid htab
  clear htab
  go_enter Tryd.func11, Tryd.ntmps11
  go_wp2_with (go_at_call 15; refine (Add_999 _ HT.out).mono ?_; rintro e w1 ⟨rfl, hb1⟩; have HB1 := Lib.hid hb1; have HT1 := Lib.hid (HT.out.below hb1); clear hb1)
  go_wp2_with (first
    | (go_at_call 23; refine (Div_7 _ HT1.out).mono ?_; rintro e w2 ⟨rfl, hb2⟩; have HB2 := Lib.hid (HB1.out.trans (hb2.mono HB1.out.size)); have HT2 := Lib.hid (HT1.out.below hb2); clear hb2)
    | (go_at_call 25; refine (Power_1024 _ HT2.out).mono ?_; rintro e w3 ⟨rfl, hb3⟩; have HB3 := Lib.hid (HB2.out.trans (hb3.mono HB2.out.size)); clear hb3)
    | (go_at_call 27; refine (Bytes_256 _).mono ?_; rintro e w4 ⟨rfl, hb4⟩; have HB4 := Lib.hid (HB3.out.trans (hb4.mono HB3.out.size)); clear hb4))
  refine (Add_01 _).mono ?_
  rintro e w5 ⟨rfl, hb5⟩
  have HB5 := Lib.hid (HB4.out.trans (hb5.mono HB4.out.size))
  clear hb5
  go_wp2
  go_ret
  exact ⟨rfl, HB5.out⟩

def cutB (s : ByteArray) : ByteArray := s.extract 0 (min s.size 410)
set_option maxRecDepth 100000 in
set_option maxHeartbeats 1000000 in
theorem cut_calls (s : ByteArray) (w : World) : Calls Tryd.prog 12 #[.string s] w fun e w' => e = .returned (.string (cutB s)) ∧ w' = w := by
  go_enter Tryd.func12, Tryd.ntmps12
  go_wp2
  go_ret
  exact ⟨by rw [cutB, show (min (s.size : Int) 410).toNat = min s.size 410 from by omega]; rfl, rfl⟩
end Go.Proofs.YtkdbiilpnijocaaDoor
