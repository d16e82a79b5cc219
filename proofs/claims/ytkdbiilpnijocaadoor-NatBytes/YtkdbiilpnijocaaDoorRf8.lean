/- The walks of the document's own Bytes and OfBytes. -/
import Derived.Test.YtkdbiilpnijocaaDoorRf7
namespace Go.Proofs.YtkdbiilpnijocaaDoor
open Go.RowKit
open Go.Lib (decDigits nDigits)

def byB (n : Nat) : ByteArray := ⟨#[UInt8.ofNat n]⟩
theorem byB_data (n : Nat) (o : ByteArray) : (byB n ++ o).data.toList = UInt8.ofNat n :: o.data.toList := by
  rw [ByteArray.data_append]; simp [byB]

theorem conv_byte (W : World) (n : Nat) (hn : n < 256) : (convert 56 9 (.slice (some ⟨W.heap.size, 0, none⟩) 1 1)).run Tryd.prog (W.alloc (.cells #[.int .u8 (n : Int)] 5)) = .ok (.string (byB n)) (W.alloc (.cells #[.int .u8 (n : Int)] 5)) := by
  refine run_convert_bytes_back _ 56 9 5 ⟨W.heap.size, 0, none⟩ 1 [UInt8.ofNat n] Tryd.underlying56 Tryd.underlying5 Tryd.underlying9 (fun j hj => ?_)
  have : j = 0 := by simp at hj; omega
  subst this
  rw [Addr.add_lit]
  have h := cell_one_new W (.int .u8 (n : Int)) 5 0 _ rfl
  rw [Addr.add_lit] at h
  rw [h, List.getElem_cons_zero, UInt8.toNat_ofNat', Nat.mod_eq_of_lt (show n < 2 ^ 8 by omega)]

theorem conv_byteI (W : World) (n : Nat) (x : Int) (hx : x = (n : Int)) (hn : n < 256) : (convert 56 9 (.slice (some ⟨W.heap.size, 0, none⟩) 1 1)).run Tryd.prog (W.alloc (.cells #[.int .u8 x] 5)) = .ok (.string (byB n)) (W.alloc (.cells #[.int .u8 x] 5)) := by
  subst hx
  exact conv_byte W n hn

theorem decB_zero : decB 0 = ⟨#[48]⟩ := by rw [← decB_one (by omega)]; rfl
theorem decB_ne {m : Nat} (h : m ≠ 0) : ¬ (decB m).toList = [48] := by
  rw [ByteArray.toList_eq, decB_data]
  intro e
  have h1 := congrArg dv e
  rw [dv_dec] at h1
  exact h (h1.trans (by decide))

theorem rDiv_256 (m : Nat) (hm : m < lim) (w : World) : Calls Tryd.prog 24 #[.string (decB m), .int .u32 256] w fun e w' => e = .returned (.tuple #[.string (decB (m / 256)), .int .u32 ((m % 256 : Nat) : Int), .int .i64 0]) ∧ Below w.heap.size w w' := by
  have h := rDiv_yes (decB m) 256 w (isNat_decB hm) (by omega) (by omega)
  rw [dv_decB] at h
  exact h

theorem byteL_le {n : Nat} (h : n < lim) : (byteL n).length ≤ 400 := by
  have h1 := isNat_parts (isNat_dec h)
  have h2 := dv_lt (decDigits n) h1.2.2.2
  rw [dv_dec] at h2
  have h3 := byteL_len (Nat.lt_of_lt_of_le h2 (Nat.pow_le_pow_left (show 10 ≤ 256 by omega) _))
  have h4 := h1.2.1
  omega

set_option maxRecDepth 100000 in
set_option maxHeartbeats 1000000 in
theorem rBytes_no (a : ByteArray) (w : World) (h : isNat a.data.toList = false) : Calls Tryd.prog 28 #[.string a] w fun e w' => e = .returned (.tuple #[.string noB, .int .i64 10]) ∧ Below w.heap.size w w' := by
  have HA := Lib.hid h
  clear h
  go_enter Tryd.func28, Tryd.ntmps28
  go_wp2_with (go_at_call 20; refine (rRight_is _ false _ HA.out).mono ?_; rintro e w1 ⟨rfl, rfl⟩)
  go_ret2
  exact ⟨rfl, Below.refl _ _⟩

set_option maxRecDepth 100000 in
set_option maxHeartbeats 1000000 in
theorem rBytes_yes (n : Nat) (w : World) (hn : n < lim) : Calls Tryd.prog 28 #[.string (decB n)] w fun e w' => e = .returned (.tuple #[.string (bytB n), .int .i64 0]) ∧ Below w.heap.size w w' := by
  have HA := Lib.hid (isNat_decB hn)
  have HL := Lib.hid (byteL_le hn)
  have HN0 := Lib.hid hn
  clear hn
  go_enter Tryd.func28, Tryd.ntmps28
  go_wp2_with (go_at_call 20; refine (rRight_is _ true _ HA.out).mono ?_; rintro e w1 ⟨rfl, rfl⟩)
  go_loopg [0, 4, 5, 6, 7] 1000 (fun g v o _ _ _ wr => ∃ (m : Nat) (t : ByteArray), v = .string (decB m) ∧ o = .string t ∧ m < lim ∧ (byteL n).reverse = (byteL m).reverse ++ t.data.toList ∧ (byteL m).length ≤ g ∧ Below w1.heap.size w1 wr)
  case atStart => exact ⟨n, ⟨#[]⟩, rfl, rfl, HN0.out, by simp, by have := HL.out; omega, Below.refl _ _⟩
  case round =>
    obtain ⟨m, t, rfl, rfl, hm, he, hg, hnx⟩ := hrel
    have HM := Lib.hid hm
    have HE := Lib.hid he
    have HG := Lib.hid hg
    have HN := Lib.hid hnx
    have hts : t.size ≤ 400 := by
      have h1 := congrArg List.length he
      have h2 := HL.out
      rw [List.length_append, List.length_reverse, List.length_reverse, ← Lib.size_eq] at h1
      omega
    clear hm he hg hnx
    by_cases h0 : m = 0
    · subst h0
      have HT : Hid (bytB n = t) := Lib.hid (str_inj (by rw [bytB_data, HE.out, byteL_zero]; rfl))
      rw [decB_zero]
      go_wp2
      go_ret2
      exact ⟨by rw [HT.out]; rfl, HN.out⟩
    · have hne : ((decB m).toList == [48]) = false := beq_eq_false_iff_ne.2 (decB_ne h0)
      have hr : m % 256 < 256 := Nat.mod_lt _ (by omega)
      have hcv := fun W => conv_byteI W (m % 256) ((m : Int) % 256) (by omega) hr
      have hone : (byB (m % 256)).size = 1 := rfl
      have HE2 : Hid ((byteL n).reverse = (byteL (m / 256)).reverse ++ (byB (m % 256) ++ t).data.toList) := Lib.hid (by
        rw [HE.out, byB_data, byteL_pos (show 0 < m by omega), List.reverse_cons, List.append_assoc]
        rfl)
      go_wp2_with (go_at_call 24; refine (rDiv_256 m HM.out _).mono ?_; rintro e w2 ⟨rfl, hb2⟩; have HB2 := Lib.hid (HN.out.trans (hb2.mono HN.out.size)); clear hb2)
      go_roundg (byteL (m / 256)).length
      case measure => have h := HG.out; rw [byteL_pos (by omega), List.length_cons] at h; omega
      case rel => exact ⟨m / 256, _, rfl, rfl, Nat.lt_of_le_of_lt (Nat.div_le_self _ _) HM.out, HE2.out, Nat.le_refl _, HB2.out.alloc HB2.out.size _⟩

theorem mul_256 (x : Nat) (w : World) (hx : nDigits x ≤ 400) : Calls Tryd.prog 47 #[.string (decB x), .string ⟨#[50, 53, 54]⟩] w fun e w' => e = .returned (.string (decB (x * 256))) ∧ Below w.heap.size w w' := by
  have h := mul_dec x 256 w hx (Nat.le_trans (nDigits_le (k := 3) (by omega) (by omega)) (by omega))
  rw [show decB 256 = ⟨#[50, 53, 54]⟩ from str_inj (by rw [decB_data]; simp [decDigits])] at h
  exact h

set_option maxRecDepth 100000 in
set_option maxHeartbeats 1000000 in
theorem rOfBytes_no (s : ByteArray) (w : World) (h0 : 0 < s.size) (hz : (byteAt s 0).toNat = 0) : Calls Tryd.prog 30 #[.string s] w fun e w' => e = .returned (.tuple #[.string noB, .int .i64 10]) ∧ Below w.heap.size w w' := by
  have hb : (((s[0]'h0).toNat : Int) == 0) = true := by rw [← byteAt_eq s 0 h0, hz]; rfl
  go_enter Tryd.func30, Tryd.ntmps30
  go_wp2
  go_ret2
  exact ⟨rfl, Below.refl _ _⟩

end Go.Proofs.YtkdbiilpnijocaaDoor
