/- The walks of the document's own To and Bytes. -/
import Derived.Test.YtkdbiilpnijocaaDoorProds
namespace Go.Proofs.YtkdbiilpnijocaaDoor
open Go.RowKit
open Go.Lib (decDigits nDigits)

def topB : ByteArray := ⟨#[49, 56, 52, 52, 54, 55, 52, 52, 48, 55, 51, 55, 48, 57, 53, 53, 49, 54, 49, 53]⟩
theorem topB_nat : isNat topB.data.toList = true := by decide
theorem topB_dv : dv topB.data.toList = 18446744073709551615 := by decide

set_option maxRecDepth 100000 in
set_option maxHeartbeats 1000000 in
theorem rTo_no (a : ByteArray) (w : World) (h : isNat a.data.toList = false) : Calls Tryd.prog 32 #[.string a] w fun e w' => e = .returned (.tuple #[.int .u64 0, .bool false]) ∧ Below w.heap.size w w' := by
  have HA := Lib.hid h
  clear h
  go_enter Tryd.func32, Tryd.ntmps32
  go_wp2_with (go_at_call 20; refine (rRight_is _ false _ HA.out).mono ?_; rintro e w1 ⟨rfl, rfl⟩)
  go_ret2
  exact ⟨rfl, Below.refl _ _⟩

theorem top_cmp (a : ByteArray) (x : Int) (w : World) (ha : isNat a.data.toList = true) (hx : cmpI (dv a.data.toList) (18446744073709551615 : Nat) = x) :
    Calls Tryd.prog 37 #[.string a, .string ⟨#[49, 56, 52, 52, 54, 55, 52, 52, 48, 55, 51, 55, 48, 57, 53, 53, 49, 54, 49, 53]⟩] w fun e w' => e = .returned (.int .i64 x) ∧ Below w.heap.size w w' :=
  rCompare_is a topB x w ha topB_nat (by rw [topB_dv]; exact hx)

set_option maxRecDepth 100000 in
set_option maxHeartbeats 1000000 in
theorem rTo_big (a : ByteArray) (w : World) (h : isNat a.data.toList = true) (hb : 18446744073709551616 ≤ dv a.data.toList) : Calls Tryd.prog 32 #[.string a] w fun e w' => e = .returned (.tuple #[.int .u64 0, .bool false]) ∧ Below w.heap.size w w' := by
  have HA := Lib.hid h
  have HX := Lib.hid (cmpI_gt (a := (dv a.data.toList : Int)) (b := ((18446744073709551615 : Nat) : Int)) (by omega))
  clear h hb
  go_enter Tryd.func32, Tryd.ntmps32
  go_wp2_with (first
    | (go_at_call 20; refine (rRight_is _ true _ HA.out).mono ?_; rintro e w1 ⟨rfl, rfl⟩)
    | (go_at_call 37; refine (top_cmp a 1 _ HA.out HX.out).mono ?_; rintro e w2 ⟨rfl, hb2⟩))
  go_ret2
  exact ⟨rfl, hb2⟩

theorem cmp_le0 (m n : Nat) (h : m ≤ n) : ∃ x : Int, cmpI m n = x ∧ x ≤ 0 := ⟨_, rfl, by rw [cmpI]; split; omega; split <;> omega⟩

theorem top_le (a : ByteArray) (ha : isNat a.data.toList = true) (hb : dv a.data.toList < 18446744073709551616) : ∃ x : Int, x ≤ 0 ∧ ∀ w, Calls Tryd.prog 37 #[.string a, .string ⟨#[49, 56, 52, 52, 54, 55, 52, 52, 48, 55, 51, 55, 48, 57, 53, 53, 49, 54, 49, 53]⟩] w fun e w' => e = .returned (.int .i64 x) ∧ Below w.heap.size w w' := by
  obtain ⟨x, hx, hx0⟩ := cmp_le0 (dv a.data.toList) 18446744073709551615 (by omega)
  exact ⟨x, hx0, fun w => top_cmp a x w ha hx⟩

theorem dv_take_le (s : ByteArray) (k : Nat) : dv (s.data.toList.take k) ≤ dv s.data.toList := by
  conv => rhs; rw [← List.take_append_drop k s.data.toList, dv_app]
  have h1 : 1 ≤ 10 ^ (s.data.toList.drop k).length := Nat.pow_pos (by omega)
  have h2 : dv (s.data.toList.take k) * 1 ≤ dv (s.data.toList.take k) * 10 ^ (s.data.toList.drop k).length := Nat.mul_le_mul_left _ h1
  omega

set_option maxRecDepth 100000 in
set_option maxHeartbeats 1000000 in
theorem rTo_yes (a : ByteArray) (w : World) (h : isNat a.data.toList = true) (hb : dv a.data.toList < 18446744073709551616) : Calls Tryd.prog 32 #[.string a] w fun e w' => e = .returned (.tuple #[.int .u64 (dv a.data.toList : Nat), .bool true]) ∧ Below w.heap.size w w' := by
  obtain ⟨da, la⟩ := nat_digs h
  have HA := Lib.hid h
  have HDA := Lib.hid da
  have HL := Lib.hid hb
  obtain ⟨x, hx0, hx⟩ := top_le a h hb
  have HX := Lib.hid hx
  clear h hb da hx
  go_enter Tryd.func32, Tryd.ntmps32
  go_wp2_with (first
    | (go_at_call 20; refine (rRight_is _ true _ HA.out).mono ?_; rintro e w1 ⟨rfl, rfl⟩)
    | (go_at_call 37; refine (HX.out _).mono ?_; rintro e w2 ⟨rfl, hb2⟩))
  go_loopw [4, 5] (fun v i wr => ∃ k : Nat, v = .int .u64 (dv (a.data.toList.take k) : Nat) ∧ i = .int .i64 k ∧ k ≤ a.size ∧ wr = w2) (fun _ i _ => a.size - (intOf i).toNat)
  case atStart => exact ⟨0, by simp [dv], rfl, Nat.zero_le _, rfl⟩
  case round =>
    obtain ⟨k, rfl, rfl, hk, rfl⟩ := hrel
    by_cases hgo : k < a.size
    · have hbe : (a[k]'hgo).toNat = (byteAt a k).toNat := by rw [byteAt_eq a k hgo]
      have hr : 48 ≤ (byteAt a k).toNat ∧ (byteAt a k).toNat ≤ 57 := by
        have hl : k < a.data.toList.length := by rw [← Lib.size_eq]; exact hgo
        rw [byteAt_list, List.getElem?_eq_getElem hl]
        exact (isD_iff _).1 ((List.all_eq_true.1 HDA.out.2) _ (List.getElem_mem hl))
      have h1 := dv_take a k hgo
      have h2 := dv_take_le a (k + 1)
      have h3 := HL.out
      obtain ⟨q, hq⟩ : ∃ q, q = dv (a.data.toList.take k) := ⟨_, rfl⟩
      rw [← hq] at h1 ⊢
      have h4 : q * 10 + ((byteAt a k).toNat - 48) < 18446744073709551616 := by omega
      have HE := Lib.hid h1
      have HQ := Lib.hid hq
      clear h1 h2 h3 hq
      go_wp2
      go_roundw
      case rel => exact ⟨k + 1, by rw [HE.out]; go_num, by go_num, hgo, by first | rfl | trivial⟩
      case measure => simp [intOf]; omega
    · obtain rfl : k = a.size := by omega
      go_wp2
      go_ret2
      exact ⟨by rw [List.take_of_length_le (by rw [← Lib.size_eq]; exact Nat.le_refl _)]; rfl, hb2⟩
end Go.Proofs.YtkdbiilpnijocaaDoor
