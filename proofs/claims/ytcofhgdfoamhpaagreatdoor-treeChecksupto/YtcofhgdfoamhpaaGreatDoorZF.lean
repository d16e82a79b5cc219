/- The document's own: Right of texts. -/
import Derived.Test.YtcofhgdfoamhpaaGreatDoorZE
namespace Go.Proofs.YtcofhgdfoamhpaaGreatDoor
open Go.RowKit

theorem ext_get (s : ByteArray) (p i : Nat) : (s.extract p s.size).get! i = s.get! (p + i) := by
  show (s.extract p s.size).data[i]! = s.data[p + i]!
  rw [ByteArray.data_extract, getElem!_def, getElem!_def, Array.getElem?_extract]
  by_cases h : i < s.data.size - p
  · rw [if_pos (by show i < min s.data.size s.data.size - p; omega)]
  · rw [if_neg (by show ¬ i < min s.data.size s.data.size - p; omega), Array.getElem?_eq_none (xs := s.data) (by omega)]
theorem size_ext (s : ByteArray) (p : Nat) : (s.extract p s.size).size = s.size - p := by
  show (s.extract p s.size).data.size = _
  rw [ByteArray.data_extract, Array.size_extract]
  show min s.data.size s.data.size - p = s.data.size - p
  omega
theorem decode_ext (s : ByteArray) (p : Nat) : Utf8.decode (s.extract p s.size) 0 = Utf8.decode s p := by
  have hk : ∀ k : Nat, decide (k < (s.extract p s.size).size) = decide (p + k < s.size) := fun k => decide_eq_decide.2 (by rw [size_ext]; omega)
  simp only [Utf8.decode, ext_get, Nat.zero_add, hk]
theorem ext_ext (s : ByteArray) (p n : Nat) : (s.extract p s.size).extract n (s.extract p s.size).size = s.extract (p + n) s.size := by
  apply ByteArray.ext
  rw [ByteArray.data_extract, size_ext, ByteArray.data_extract, ByteArray.data_extract, Array.extract_extract]
  congr 1
  show min (p + (s.data.size - p)) s.data.size = s.data.size
  omega
theorem ext_all2 (s : ByteArray) : s.extract 0 s.size = s := by
  apply ByteArray.ext
  rw [ByteArray.data_extract]
  exact Array.extract_size
theorem repB_rp (T : ByteArray) : repB T = rp T.size (T.get! 0).toNat (T.get! 1).toNat (T.get! 2).toNat := by
  by_cases h : 3 ≤ T.size
  · rw [repB, decide_eq_true h, Bool.true_and, rp, Lib.toList_data, Lib.extract_data]
    rcases T with ⟨⟨l⟩⟩
    match l, h with
    | x0 :: x1 :: x2 :: r, h =>
      have q : ∀ (x : UInt8) (n : Nat) (c : UInt8), c.toNat = n → ((x = c) ↔ x.toNat = n) := fun x n c hc => ⟨fun e => by rw [e, hc], fun e => UInt8.toNat_inj.1 (by rw [e, hc])⟩
      rw [Bool.eq_iff_iff, beq_iff_eq, decide_eq_true_eq]
      show [x0, x1, x2] = [239, 191, 189] ↔ (_ ∧ x0.toNat = 239 ∧ x1.toNat = 191 ∧ x2.toNat = 189)
      simp only [List.cons.injEq, and_true]
      rw [q x0 239 239 rfl, q x1 191 191 rfl, q x2 189 189 rfl]
      exact ⟨fun e => ⟨h, e⟩, fun e => e.2⟩
  · rw [repB, decide_eq_false h, rp, decide_eq_false (fun e => h e.1)]
    rfl
theorem firN_bad (s : ByteArray) (p : Nat) : firN (s.extract p s.size) = if badU s p then 0 else (Utf8.decode s p).2 := by
  rw [firN, firM, ← repB_rp, ← decode_dec1, decode_ext, badU]
theorem dec1_le {z b0 b1 b2 b3 : Nat} (hz : 0 < z) : (dec1 z b0 b1 b2 b3).2 ≤ z := by
  unfold dec1
  split
  · exact hz
  · split
    · rename_i h
      simp only [Bool.and_eq_true, decide_eq_true_eq] at h
      split
      · exact h.2.1
      · exact hz
    · split
      · rename_i h
        simp only [Bool.and_eq_true, decide_eq_true_eq] at h
        split
        · exact h.2.1
        · exact hz
      · split
        · rename_i h
          simp only [Bool.and_eq_true, decide_eq_true_eq] at h
          split
          · exact h.2.1
          · exact hz
        · exact hz
set_option maxRecDepth 100000 in
theorem rUtf_calls (s : ByteArray) (w : World) : Calls Tryz.prog 63 #[.string s] w (BolP (utfW s 0) w) := by
  obtain ⟨U, hU⟩ : ∃ U, U = utfW s 0 := ⟨_, rfl⟩
  rw [← hU]
  have HU := Lib.hid hU
  clear hU
  go_enter Tryz.func63, Tryz.ntmps63
  go_wp2_with fail
  go_loopw [0] (fun x wr => ∃ (T : ByteArray) (p : Nat), x = .string T ∧ T = s.extract p s.size ∧ p ≤ s.size ∧ utfW s 0 = utfW s p ∧ wr = w) (fun x _ => match x with | .string T => T.size | _ => 0)
  case atStart => exact ⟨s, 0, rfl, (ext_all2 s).symm, Nat.zero_le _, rfl, rfl⟩
  case round =>
    obtain ⟨T, p, rfl, hT, hp, hu, rfl⟩ := hrel
    have HT := Lib.hid hT
    have HW := Lib.hid hu
    have HSz : Hid (T.size = s.size - p) := Lib.hid (by rw [hT, size_ext])
    clear hT hu
    by_cases h0 : T.size = 0
    · have hE : T.toList.isEmpty = true := by rw [Lib.toList_data, List.isEmpty_iff]; exact List.eq_nil_of_length_eq_zero (by rw [← Lib.size_eq]; exact h0)
      have hE2 : T.toList = [] := by rw [Lib.toList_data]; exact List.eq_nil_of_length_eq_zero (by rw [← Lib.size_eq]; exact h0)
      have HF : Hid (U = true) := Lib.hid (by rw [HU.out, HW.out, utfW, if_neg (by have := HSz.out; omega)])
      go_wp2_with fail
      go_ret
      exact ⟨by rw [HF.out]; rfl, Below.refl _ _⟩
    · have hE2 : ¬ T.toList = [] := by intro h; rw [Lib.toList_data] at h; have := Lib.size_eq T; rw [h, List.length_nil] at this; exact h0 this
      have hE : T.toList.isEmpty = false := by rw [List.isEmpty_eq_false_iff]; exact hE2
      have HN : Hid (firN T = if badU s p then 0 else (Utf8.decode s p).2) := Lib.hid (by rw [HT.out]; exact firN_bad s p)
      have HLe : Hid ((Utf8.decode s p).2 ≤ T.size) := Lib.hid (by rw [← decode_ext, ← HT.out, decode_dec1]; exact dec1_le (by omega))
      have HPos := Lib.hid (decode_pos s p)
      go_wp2_with fail
      refine (rFirst_calls T _ (by omega)).mono ?_
      rintro o w1 ⟨⟨c, rfl⟩, rfl⟩
      cases hb : badU s p with
      | true =>
        have HF : Hid (firN T = 0) := Lib.hid (by rw [HN.out, hb]; rfl)
        have HV : Hid (U = false) := Lib.hid (by rw [HU.out, HW.out, utfW, if_pos (by have := HSz.out; omega), hb]; rfl)
        rw [HF.out]
        go_wp2_with fail
        go_ret
        exact ⟨by rw [HV.out]; rfl, Below.refl _ _⟩
      | false =>
        obtain ⟨n, hn⟩ : ∃ n, n = (Utf8.decode s p).2 := ⟨_, rfl⟩
        have HF : Hid (firN T = n) := Lib.hid (by rw [HN.out, hb, hn]; rfl)
        have HV : Hid (utfW s 0 = utfW s (p + n)) := Lib.hid (by rw [HW.out, utfW, if_pos (by have := HSz.out; omega), hb, hn]; rfl)
        have hn1 : 1 ≤ n := by rw [hn]; exact HPos.out
        have hn2 : n ≤ T.size := by rw [hn]; exact HLe.out
        rw [HF.out]
        have g1 : ¬ (n : Int) = 0 := by omega
        have g2 : (n : Int) ≤ (T.size : Int) := by omega
        clear hb hn
        go_wp2_with fail
        go_roundw
        case rel => exact ⟨_, p + n, rfl, by rw [HT.out]; exact ext_ext s p n, by have := HSz.out; omega, HV.out, by first | rfl | trivial⟩
        case measure =>
          show (T.extract n T.size).size < T.size
          rw [size_ext]
          omega
end Go.Proofs.YtcofhgdfoamhpaaGreatDoor
