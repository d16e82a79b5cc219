/- The walks of the document's own Of and Div. -/
import Derived.Test.YtkdbiilpnijocaaDoorRf4
namespace Go.Proofs.YtkdbiilpnijocaaDoor
open Go.RowKit
open Go.Lib (decDigits)

theorem decB_step {n : Nat} (h : ¬ n < 10) : decB (n / 10) ++ oneB (n % 10) = decB n := by
  refine str_inj ?_
  rw [ByteArray.data_append, Array.toList_append, decB_data, decB_data, dec_step h]
  simp [oneB]
theorem decB_one {n : Nat} (h : n < 10) : oneB n = decB n := by
  refine str_inj ?_
  rw [decB_data, Lib.decDigits_one h]
  simp [oneB]
theorem decB_size {n : Nat} (h : n < 18446744073709551616) : (decB n).size ≤ 20 := by
  rw [Lib.size_eq, decB_data, Lib.decDigits_length]
  exact nDigits_le (by omega) (by omega)

set_option maxRecDepth 100000 in
set_option maxHeartbeats 1000000 in
theorem rOf_calls (n : Nat) : ∀ (w : World), n < 18446744073709551616 → Calls Tryd.prog 34 #[.int .u64 (n : Int)] w fun e w' => e = .returned (.string (decB n)) ∧ Below w.heap.size w w' := by
  induction n using Nat.strongRecOn with
  | _ n ih =>
    intro w hn
    have hcv := fun W => conv_int W (n % 10) ((n : Int) % 10) (by omega) (by omega)
    by_cases h : n < 10
    · have H1 := Lib.hid (show oneB (n % 10) = decB n by rw [Nat.mod_eq_of_lt h, decB_one h])
      clear ih
      go_enter Tryd.func34, Tryd.ntmps34
      go_wp2
      go_ret
      exact ⟨by rw [← H1.out]; rfl, (Below.refl _ _).alloc (Nat.le_refl _) _⟩
    · have IH : Hid (∀ w, Calls Tryd.prog 34 #[.int .u64 ((n : Int) / 10)] w fun e w' => e = .returned (.string (decB (n / 10))) ∧ Below w.heap.size w w') := Lib.hid (fun w => by
        rw [show ((n : Int) / 10) = ((n / 10 : Nat) : Int) from by omega]
        exact ih (n / 10) (by omega) w (by omega))
      have H1 := Lib.hid (decB_step h)
      have hs : (decB (n / 10)).size ≤ 20 := decB_size (by omega)
      have hone : (oneB (n % 10)).size = 1 := rfl
      clear ih
      go_enter Tryd.func34, Tryd.ntmps34
      go_wp2_with (go_at_call 34; refine (IH.out _).mono ?_; rintro e w1 ⟨rfl, hb1⟩)
      go_ret
      exact ⟨by rw [← H1.out]; rfl, ((Below.refl _ _).alloc (Nat.le_refl _) _).trans (hb1.mono (by simp))⟩

/-- A quotient's digits, k of them, and what is left. -/
structure QuoI (a o : ByteArray) (d k r : Nat) : Prop where
  len : o.size = k
  all : o.data.toList.all isD = true
  le : k ≤ a.size
  lt : r < d
  eq : dv (a.data.toList.take k) = dv o.data.toList * d + r

theorem snoc_data (n : Nat) (o : ByteArray) : (o ++ oneB n).data.toList = o.data.toList ++ [UInt8.ofNat (48 + n)] := by
  rw [ByteArray.data_append]; simp [oneB]
theorem snoc_all {n : Nat} {o : ByteArray} (hn : n < 10) (h : o.data.toList.all isD = true) : (o ++ oneB n).data.toList.all isD = true := by
  rw [snoc_data, List.all_append, h, Bool.true_and, List.all_cons, List.all_nil, Bool.and_true, isD_iff, dig_nat hn]; omega
theorem snoc_dv {n : Nat} {o : ByteArray} (hn : n < 10) : dv (o ++ oneB n).data.toList = dv o.data.toList * 10 + n := by
  rw [snoc_data, dv_snoc, dig_nat hn, Nat.add_sub_cancel_left]
theorem snoc_size (n : Nat) (o : ByteArray) : (o ++ oneB n).size = o.size + 1 := by
  rw [Lib.size_eq, snoc_data, List.length_append, List.length_singleton, ← Lib.size_eq]

theorem dv_take (s : ByteArray) (k : Nat) (hk : k < s.size) : dv (s.data.toList.take (k + 1)) = dv (s.data.toList.take k) * 10 + ((byteAt s k).toNat - 48) := by
  have hl : k < s.data.toList.length := by rw [← Lib.size_eq]; exact hk
  rw [List.take_succ_eq_append_getElem hl, dv_snoc, byteAt_list, List.getElem?_eq_getElem hl]
  rfl

theorem QuoI.quot {a o : ByteArray} {d k r c : Nat} (h : QuoI a o d k r) (hc : c < 10) : (10 * r + c) / d < 10 := by
  have := h.lt
  refine Nat.div_lt_of_lt_mul ?_
  omega

theorem QuoI.step {a o : ByteArray} {d k r : Nat} (h : QuoI a o d k r) (hk : k < a.size) (hc : (byteAt a k).toNat - 48 < 10) :
    QuoI a (o ++ oneB ((10 * r + ((byteAt a k).toNat - 48)) / d)) d (k + 1) ((10 * r + ((byteAt a k).toNat - 48)) % d) := by
  have hq := h.quot hc
  have h0 : 0 < d := by have := h.lt; omega
  refine ⟨by rw [snoc_size, h.len], snoc_all hq h.all, hk, Nat.mod_lt _ h0, ?_⟩
  rw [dv_take a k hk, snoc_dv hq, h.eq]
  have h1 := Nat.div_add_mod' (10 * r + ((byteAt a k).toNat - 48)) d
  generalize (10 * r + ((byteAt a k).toNat - 48)) / d = x at *
  generalize (10 * r + ((byteAt a k).toNat - 48)) % d = y at *
  rw [Nat.add_mul, Nat.add_mul, Nat.mul_right_comm _ d 10]
  omega

set_option maxRecDepth 100000 in
set_option maxHeartbeats 1000000 in
theorem rDiv_no (a : ByteArray) (d : Nat) (w : World) (h : isNat a.data.toList = false ∨ d = 0) : Calls Tryd.prog 24 #[.string a, .int .u32 (d : Int)] w fun e w' => e = .returned (.tuple #[.string noB, .int .u32 0, .int .i64 10]) ∧ w' = w := by
  by_cases ha : isNat a.data.toList = false
  · have HA := Lib.hid ha
    clear ha h
    go_enter Tryd.func24, Tryd.ntmps24
    go_wp2_with (go_at_call 20; refine (rRight_is _ false _ HA.out).mono ?_; rintro e w1 ⟨rfl, rfl⟩)
    go_ret3
    exact ⟨rfl, rfl⟩
  · obtain rfl : d = 0 := by rcases h with h | h; exact absurd h ha; exact h
    have HA := Lib.hid (by simpa using ha : isNat a.data.toList = true)
    clear ha h
    go_enter Tryd.func24, Tryd.ntmps24
    go_wp2_with (go_at_call 20; refine (rRight_is _ true _ HA.out).mono ?_; rintro e w1 ⟨rfl, rfl⟩)
    go_ret3
    exact ⟨rfl, rfl⟩

set_option maxRecDepth 100000 in
set_option maxHeartbeats 1000000 in
theorem rDiv_yes (a : ByteArray) (d : Nat) (w : World) (ha : isNat a.data.toList = true) (hd0 : 0 < d) (hd1 : d < 4294967296) :
    Calls Tryd.prog 24 #[.string a, .int .u32 (d : Int)] w fun e w' => e = .returned (.tuple #[.string (decB (dv a.data.toList / d)), .int .u32 ((dv a.data.toList % d : Nat) : Int), .int .i64 0]) ∧ Below w.heap.size w w' := by
  obtain ⟨da, la⟩ := nat_digs ha
  have HA := Lib.hid ha
  have HDA := Lib.hid da
  have hdz : ((d : Int) == 0) = false := beq_eq_false_iff_ne.2 (by omega)
  clear ha da
  go_enter Tryd.func24, Tryd.ntmps24
  go_wp2_with (go_at_call 20; refine (rRight_is _ true _ HA.out).mono ?_; rintro e w1 ⟨rfl, rfl⟩)
  go_loopw [7, 8, 9] (fun v r i wr => ∃ (o : ByteArray) (k q : Nat), v = .string o ∧ r = .int .u64 q ∧ i = .int .i64 k ∧ QuoI a o d k q ∧ Below w1.heap.size w1 wr) (fun _ _ i _ => a.size - (intOf i).toNat)
  case atStart => exact ⟨⟨#[]⟩, 0, 0, rfl, rfl, rfl, ⟨rfl, rfl, Nat.zero_le _, hd0, by simp [dv]⟩, Below.refl _ _⟩
  case round =>
    obtain ⟨o, k, q, rfl, rfl, rfl, hI, hnx⟩ := hrel
    have HI := Lib.hid hI
    have HN := Lib.hid hnx
    have hkl := hI.le
    have hql := hI.lt
    have hos := hI.len
    clear hI hnx
    by_cases hgo : k < a.size
    · have hbe : (a[k]'hgo).toNat = (byteAt a k).toNat := by rw [byteAt_eq a k hgo]
      have hr : 48 ≤ (byteAt a k).toNat ∧ (byteAt a k).toNat ≤ 57 := by
        have hl : k < a.data.toList.length := by rw [← Lib.size_eq]; exact hgo
        rw [byteAt_list, List.getElem?_eq_getElem hl]
        exact (isD_iff _).1 ((List.all_eq_true.1 HDA.out.2) _ (List.getElem_mem hl))
      have hqt := HI.out.quot (c := (byteAt a k).toNat - 48) (by omega)
      have hcv := fun W => conv_int W ((10 * q + ((byteAt a k).toNat - 48)) / d) ((10 * (q : Int) + (((byteAt a k).toNat : Int) - 48)) / (d : Int)) (by rw [Int.natCast_ediv]; congr 1; omega) hqt
      have hone : (oneB ((10 * q + ((byteAt a k).toNat - 48)) / d)).size = 1 := rfl
      have hqi : (10 * (q : Int) + (((byteAt a k).toNat : Int) - 48)) / (d : Int) < 10 ∧ 0 ≤ (10 * (q : Int) + (((byteAt a k).toNat : Int) - 48)) / (d : Int) := by
        have e : (10 * (q : Int) + (((byteAt a k).toNat : Int) - 48)) / (d : Int) = (((10 * q + ((byteAt a k).toNat - 48)) / d : Nat) : Int) := by rw [Int.natCast_ediv]; congr 1; omega
        rw [e]
        exact ⟨Int.ofNat_lt.2 hqt, Int.natCast_nonneg _⟩
      obtain ⟨hqi1, hqi2⟩ := hqi
      clear hqt
      go_wp2
      go_roundw
      case rel => exact ⟨_, k + 1, (10 * q + ((byteAt a k).toNat - 48)) % d, rfl, by rw [Int.natCast_emod]; congr 2; omega, by go_num, HI.out.step hgo (by omega), HN.out.alloc HN.out.size _⟩
      case measure => simp [intOf]; omega
    · have HD : Hid (Digs o ∧ dv o.data.toList = dv a.data.toList / d ∧ q = dv a.data.toList % d) := by
        have h4 := HI.out.eq
        rw [List.take_of_length_le (by rw [← Lib.size_eq]; omega)] at h4
        refine Lib.hid ⟨⟨fun e => ?_, HI.out.all⟩, ?_, ?_⟩
        · have h7 := Lib.size_eq o
          have h8 := Lib.size_eq a
          rw [e, List.length_nil] at h7
          cases e2 : a.data.toList with
          | nil => exact HDA.out.1 e2
          | cons c l => rw [e2, List.length_cons] at h8; omega
        · rw [h4, Nat.mul_comm, Nat.mul_add_div hd0, Nat.div_eq_of_lt hql, Nat.add_zero]
        · rw [h4, Nat.mul_comm, Nat.mul_add_mod, Nat.mod_eq_of_lt hql]
      go_wp2_with (go_at_call 44; refine (rTrim_calls o _ HD.out.1 (by omega)).mono ?_; rintro e w3 ⟨rfl, rfl⟩)
      go_ret3
      exact ⟨by rw [HD.out.2.1, ← HD.out.2.2]; rfl, HN.out⟩
end Go.Proofs.YtkdbiilpnijocaaDoor
