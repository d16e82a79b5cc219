/- The walk of the document's own Mul. -/
import Derived.Test.YtgcalhnfoakggaaGreatDoorMr
namespace Go.Proofs.YtgcalhnfoakggaaGreatDoor
open Go.RowKit
open Go.Lib (decDigits nDigits)

set_option maxRecDepth 100000 in
set_option maxHeartbeats 1000000 in
theorem rMul_yes (a b : ByteArray) (w : World) (ha : isNat a.data.toList = true) (hb : isNat b.data.toList = true) : Calls Tryz.prog 50 #[.string a, .string b] w (TellPost (dv a.data.toList * dv b.data.toList) w) := by
  obtain ⟨da, la⟩ := nat_digs ha
  obtain ⟨db, lb⟩ := nat_digs hb
  have hsz : (decB (dv a.data.toList * dv b.data.toList)).size ≤ 100000 := by
    have h1 := mul_lt_pow (dv_lt a.data.toList da.2) (dv_lt b.data.toList db.2)
    have h0 : 1 ≤ a.data.toList.length := by
      cases e : a.data.toList with
      | nil => exact absurd e da.1
      | cons => simp
    have h2 := nDigits_le (by omega) h1
    rw [← Lib.size_eq, ← Lib.size_eq] at h2
    rw [decB_len]
    omega
  have HA := Lib.hid ha
  have HB := Lib.hid hb
  have HDA := Lib.hid da
  have HDB := Lib.hid db
  have HE := Lib.hid (fun w => rEnds_calls (decB (dv a.data.toList * dv b.data.toList)) w (decB_digs _) hsz)
  clear ha hb da db hsz
  go_enter Tryz.func50, Tryz.ntmps50
  go_wp2_with (first
    | (go_at_call 61; refine (rRight_is _ true _ (by first | exact HA.out | exact HB.out)).mono ?_; rintro e w1 ⟨rfl, rfl⟩)
    | (go_at_call 71; refine (rMul_in a b _ HDA.out HDB.out (by omega) (by omega)).mono ?_; rintro e w2 ⟨rfl, hb2⟩)
    | (go_at_call 70; refine (HE.out _).mono ?_; rintro e w3 ⟨rfl, hb3⟩))
  go_ret2
  exact ⟨by rw [dv_decB]; rfl, hb2.trans (hb3.mono hb2.size)⟩
end Go.Proofs.YtgcalhnfoakggaaGreatDoor
