/- The walk of the document's own OfBytes. -/
import Derived.Test.YtkdbiilpnijocaaDoorRf8
namespace Go.Proofs.YtkdbiilpnijocaaDoor
open Go.RowKit
open Go.Lib (decDigits nDigits)

theorem add_dec (x y : Nat) (w : World) (hx : nDigits x ≤ 1000) (hy : nDigits y ≤ 1000) : Calls Tryd.prog 41 #[.string (decB x), .string (decB y)] w fun e w' => ∃ o, e = .returned (.string o) ∧ Digs o ∧ dv o.data.toList = x + y ∧ o.size ≤ 1001 ∧ Below w.heap.size w w' := by
  have h := rAdd_in (decB x) (decB y) w (decB_digs x) (decB_digs y) (by rw [decB_len]; exact hx) (by rw [decB_len]; exact hy)
  rw [dv_decB, dv_decB] at h
  exact h

theorem nDigits_256 {x : Nat} (h : nDigits x ≤ 400) : nDigits (x * 256) ≤ 1000 := by
  have h1 := Lib.lt_pow_nDigits x
  have h2 : x * 256 < 10 ^ (nDigits x + 3) := by
    rw [Nat.pow_add]
    omega
  have := nDigits_le (k := nDigits x + 3) (by omega) h2
  omega

set_option maxRecDepth 100000 in
set_option maxHeartbeats 1000000 in
theorem rOfBytes_empty (w : World) : Calls Tryd.prog 30 #[.string ⟨#[]⟩] w (TellPost 0 w) := by
  go_enter Tryd.func30, Tryd.ntmps30
  go_wp2
  go_loopw [4, 5] (fun v i wr => v = .string ⟨#[48]⟩ ∧ i = .int .i64 0 ∧ wr = w) (fun _ _ _ => 0)
  case atStart => exact ⟨rfl, rfl, rfl⟩
  case round =>
    obtain ⟨rfl, rfl, rfl⟩ := hrel
    go_wp2
    go_ret2
    exact ⟨by rw [outS_lim (lt_lim (n := 0) (k := 1) (by omega) (by omega) (by omega)), outE_lim (lt_lim (n := 0) (k := 1) (by omega) (by omega) (by omega)), show decDigits 0 = [48] from by simp [decDigits]]; rfl, Below.refl _ _⟩

theorem rOf_z (z : Int) (n : Nat) (w : World) (hz : z = (n : Int)) (hn : n < 18446744073709551616) : Calls Tryd.prog 34 #[.int .u64 z] w fun e w' => e = .returned (.string (decB n)) ∧ Below w.heap.size w w' := by
  subst hz
  exact rOf_calls n w hn

set_option maxRecDepth 100000 in
set_option maxHeartbeats 2000000 in
theorem rOfBytes_some (s : ByteArray) (w : World) (h0 : 0 < s.size) (hmax : s.size ≤ 100000) (hz : (byteAt s 0).toNat ≠ 0) : Calls Tryd.prog 30 #[.string s] w (TellPost (bv s.data.toList) w) := by
  have hb : (((s[0]'h0).toNat : Int) == 0) = false := by rw [← byteAt_eq s 0 h0]; exact beq_eq_false_iff_ne.2 (by omega)
  have hb' : ¬ (((s[0]'h0).toNat : Int) = 0) := by rw [← byteAt_eq s 0 h0]; omega
  clear hz
  go_enter Tryd.func30, Tryd.ntmps30
  go_wp2
  clear hb hb'
  go_loopw [4, 5] (fun v i wr => ∃ k : Nat, v = .string (decB (bv (s.data.toList.take k))) ∧ i = .int .i64 k ∧ k ≤ s.size ∧ nDigits (bv (s.data.toList.take k)) ≤ 400 ∧ Below w.heap.size w wr) (fun _ i _ => s.size - (intOf i).toNat)
  case atStart => exact ⟨0, by rw [List.take_zero, show bv [] = 0 from rfl, decB_zero], rfl, Nat.zero_le _, by rw [List.take_zero, show bv [] = 0 from rfl, Lib.nDigits_small (by omega)]; omega, Below.refl _ _⟩
  case round =>
    obtain ⟨k, rfl, rfl, hk, hdg, hnx⟩ := hrel
    have HN := Lib.hid hnx
    clear hnx
    by_cases hlt : k < s.size
    · have hby : (byteAt s k).toNat < 256 := (byteAt s k).toNat_lt
      have hbe : (s[k]'hlt).toNat = (byteAt s k).toNat := by rw [byteAt_eq s k hlt]
      have HV := Lib.hid (bv_take s k hlt)
      generalize bv (s.data.toList.take k) = x at *
      generalize (byteAt s k).toNat = c at *
      have HD := Lib.hid hdg
      have HD2 := Lib.hid (nDigits_256 hdg)
      have HC : Hid (nDigits c ≤ 1000) := Lib.hid (Nat.le_trans (nDigits_le (k := 3) (by omega) (by omega)) (by omega))
      have HW : Hid (IntKind.u64.wrap (c : Int) = (c : Int)) := Lib.hid (by rw [IntKind.wrap_u64]; omega)
      clear hdg
      go_wp2_with fail
      go_region_with (first
        | (go_at_call 47; refine (mul_256 x _ HD.out).mono ?_; rintro e w2 ⟨rfl, hb2⟩; have HB2 := Lib.hid hb2; clear hb2)
        | (go_at_call 34; refine (rOf_z _ c _ HW.out (by omega)).mono ?_; rintro e w3 ⟨rfl, hb3⟩; have HB3 := Lib.hid hb3; clear hb3)
        | (go_at_call 41; refine (add_dec (x * 256) c _ HD2.out HC.out).mono ?_; rintro e w4 ⟨o, rfl, hd, hv, hs, hb4⟩; have HDg := Lib.hid hd; have HVo := Lib.hid hv; have HB4 := Lib.hid hb4; clear hd hv hb4)
        | (go_at_call 44; refine (rTrim_calls o _ HDg.out (by omega)).mono ?_; rintro e w5 ⟨rfl, rfl⟩))
      all_goals
        have hsz := decB_len (dv o.data.toList)
        have HBw : Hid (Below w.heap.size w w5) := Lib.hid ((HN.out.drew.trans (HB2.out.mono HN.out.size)).trans ((HB3.out.mono (by have := HN.out.size; have := HB2.out.size; simp at this; omega)).trans (HB4.out.mono (by have := HN.out.size; have := HB2.out.size; have := HB3.out.size; simp at *; omega))))
        have HE : Hid (dv o.data.toList = bv (s.data.toList.take (k + 1))) := Lib.hid (HVo.out.trans HV.out.symm)
        clear HV HD HD2 HC HW HVo HDg
        by_cases hl : nDigits (dv o.data.toList) ≤ 400
        · go_wp2
          go_roundw
          case rel => exact ⟨k + 1, by rw [← HE.out], by go_num, hlt, by rw [← HE.out]; exact hl, HBw.out⟩
          case measure => simp [intOf]; omega
        · have HL : Hid (lim ≤ bv s.data.toList) := Lib.hid (by
            have h1 : lim ≤ dv o.data.toList := by rcases Nat.lt_or_ge (dv o.data.toList) lim with h | h; exact absurd ((lim_iff _).2 h) hl; exact h
            rw [HE.out] at h1
            exact Nat.le_trans h1 (bv_mono _ _))
          have hl2 : 400 < nDigits (dv o.data.toList) := by omega
          go_wp2
          go_ret2
          exact ⟨by rw [outS_long (by have := HL.out; omega), outE_long (by have := HL.out; omega)]; rfl, HBw.out⟩
    · obtain rfl : k = s.size := by omega
      have HD := Lib.hid hdg
      clear hdg
      go_wp2
      go_ret2
      have e : s.data.toList.take s.size = s.data.toList := List.take_of_length_le (by simp)
      rw [e] at HD ⊢
      exact ⟨by rw [outS_lt HD.out, outE_lt HD.out]; rfl, HN.out⟩
end Go.Proofs.YtkdbiilpnijocaaDoor
