/- The document's own: Read. -/
import Derived.Test.YtgaaiiacdeejfaaDoorR2
import Derived.WalkSmall
namespace Go.Proofs.YtgaaiiacdeejfaaDoor
open Go.RowKit

set_option maxRecDepth 100000 in
set_option maxHeartbeats 1000000 in
theorem rRead_empty (w : World) : Calls Tryd.prog 15 #[.string ⟨#[]⟩] w fun o w' => o = .returned (.tuple #[.int .i64 0, .int .i64 0, .int .u64 0, .string ⟨#[]⟩, .int .i64 100]) ∧ Below w.heap.size w w' := by
  go_enter Tryd.func15, Tryd.ntmps15
  go_wp2
  refine bodyPost_ret (v := .tuple #[.int .i64 0, .int .i64 0, .int .u64 0, .string ⟨#[]⟩, .int .i64 100]) (by simp [results, Tryd.results15, go_sem]) rfl ?_
  exact ⟨rfl, Below.refl _ _⟩
set_option maxRecDepth 100000 in
set_option maxHeartbeats 1000000 in
theorem rRead_little (s : ByteArray) (c j k : Nat) (w : World) (h0 : 0 < s.size) (hc : (s[0]'h0).toNat = c) (hc2 : c < 256) (hq : (c : Int).tdiv 32 = (j : Int)) (hr : (c : Int).tmod 32 = (k : Int)) (hj : j < 8) (hk : k < 24) : Calls Tryd.prog 15 #[.string s] w fun o w' => o = .returned (.tuple #[.int .i64 (j : Int), .int .i64 (k : Int), .int .u64 (k : Int), .string (s.extract 1 s.size), .int .i64 0]) ∧ Below w.heap.size w w' := by
  have hne := not_emptyH h0
  have hd : decide ((k : Int) < 24) = true := by simp; omega
  go_enter Tryd.func15, Tryd.ntmps15
  go_wp2
  go_quiet (fail)
  go_wp2
  refine bodyPost_ret (v := .tuple #[.int .i64 (j : Int), .int .i64 (k : Int), .int .u64 (k : Int), .string (s.extract 1 s.size), .int .i64 0]) (by simp [results, Tryd.results15, go_sem]) rfl ?_
  exact ⟨rfl, below_drewN (Below.refl _ _) _⟩
set_option maxRecDepth 100000 in
set_option maxHeartbeats 1000000 in
theorem rRead_open (s : ByteArray) (c j k : Nat) (w : World) (h0 : 0 < s.size) (hc : (s[0]'h0).toNat = c) (hc2 : c < 256) (hq : (c : Int).tdiv 32 = (j : Int)) (hr : (c : Int).tmod 32 = (k : Int)) (hj : j < 8) (hk : k = 31) : Calls Tryd.prog 15 #[.string s] w fun o w' => o = .returned (.tuple #[.int .i64 (j : Int), .int .i64 31, .int .u64 0, .string (s.extract 1 s.size), .int .i64 0]) ∧ Below w.heap.size w w' := by
  have hne := not_emptyH h0
  subst hk
  go_enter Tryd.func15, Tryd.ntmps15
  go_wp2
  go_quiet (fail)
  go_wp2
  refine bodyPost_ret (v := .tuple #[.int .i64 (j : Int), .int .i64 31, .int .u64 0, .string (s.extract 1 s.size), .int .i64 0]) (by simp [results, Tryd.results15, go_sem]) rfl ?_
  exact ⟨rfl, below_drewN (Below.refl _ _) _⟩
set_option maxRecDepth 100000 in
set_option maxHeartbeats 1000000 in
theorem rRead_bad (s : ByteArray) (c j k : Nat) (w : World) (h0 : 0 < s.size) (hc : (s[0]'h0).toNat = c) (hc2 : c < 256) (hq : (c : Int).tdiv 32 = (j : Int)) (hr : (c : Int).tmod 32 = (k : Int)) (hj : j < 8) (hk : 27 < k) (hk2 : k < 31) : Calls Tryd.prog 15 #[.string s] w fun o w' => o = .returned (.tuple #[.int .i64 0, .int .i64 0, .int .u64 0, .string s, .int .i64 101]) ∧ Below w.heap.size w w' := by
  have hne := not_emptyH h0
  have hd : decide ((k : Int) < 24) = false := by simp; omega
  have hd2 : ((k : Int) == 31) = false := by simp; omega
  have hd3 : decide (27 < (k : Int)) = true := by simp; omega
  clear hk hk2
  go_enter Tryd.func15, Tryd.ntmps15
  go_wp2
  refine bodyPost_ret (v := .tuple #[.int .i64 0, .int .i64 0, .int .u64 0, .string s, .int .i64 101]) (by simp [results, Tryd.results15, go_sem]) rfl ?_
  exact ⟨rfl, Below.refl _ _⟩
theorem ext_at (s : ByteArray) (n t : Nat) (ht : t < n) (hi : t + 1 < s.size) : ((s.extract 1 (1 + n)).data.toList.getD t 0).toNat = (s[t + 1]'hi).toNat := by
  rw [← byteAt_eq s (t + 1) hi, byteAt_list, List.getD, Lib.extract_data]
  rw [List.getElem?_take, if_pos (by omega), List.getElem?_drop, Nat.add_comm]
set_option maxRecDepth 100000 in
set_option maxHeartbeats 1000000 in
theorem rRead_short24 (s : ByteArray) (c j k : Nat) (w : World) (h0 : 0 < s.size) (hc : (s[0]'h0).toNat = c) (hc2 : c < 256) (hq : (c : Int).tdiv 32 = (j : Int)) (hr : (c : Int).tmod 32 = (k : Int)) (hj : j < 8) (hk : k = 24) (hs : s.size < 2) : Calls Tryd.prog 15 #[.string s] w fun o w' => o = .returned (.tuple #[.int .i64 0, .int .i64 0, .int .u64 0, .string s, .int .i64 100]) ∧ Below w.heap.size w w' := by
  have hne := not_emptyH h0
  subst hk
  have hd4 : decide ((s.size : Int) < 2) = true := by simp; omega
  clear hs
  go_enter Tryd.func15, Tryd.ntmps15
  go_wp2
  go_loop [9, 10] (fun v x => ∃ t : Nat, v = .int .i64 ((2 ^ t : Nat) : Int) ∧ x = .int .i64 ((24 + t : Nat) : Int) ∧ t ≤ 0) (fun _ x => 24 - (intOf x).toNat)
  case atStart => exact ⟨0, rfl, rfl, by omega⟩
  case round =>
    obtain ⟨t, rfl, rfl, ht⟩ := hrel
    have hcs : t = 0 := by omega
    rcases hcs with rfl
    · go_wp2
      refine bodyPost_ret (v := .tuple #[.int .i64 0, .int .i64 0, .int .u64 0, .string s, .int .i64 100]) (by simp [results, Tryd.results15, go_sem]) rfl ?_
      exact ⟨rfl, Below.refl _ _⟩
set_option maxRecDepth 100000 in
set_option maxHeartbeats 1000000 in
theorem rRead_yes24 (s : ByteArray) (c j k : Nat) (w : World) (h0 : 0 < s.size) (hc : (s[0]'h0).toNat = c) (hc2 : c < 256) (hq : (c : Int).tdiv 32 = (j : Int)) (hr : (c : Int).tmod 32 = (k : Int)) (hj : j < 8) (hk : k = 24) (hs : 1 + 1 ≤ s.size) : Calls Tryd.prog 15 #[.string s] w fun o w' => o = .returned (.tuple #[.int .i64 (j : Int), .int .i64 24, .int .u64 (valL (s.extract 1 (1 + 1)).data.toList : Int), .string (s.extract (1 + 1) s.size), .int .i64 0]) ∧ Below w.heap.size w w' := by
  have hne := not_emptyH h0
  subst hk
  have hd4 : decide ((s.size : Int) < 2) = false := by simp; omega
  have hle : ((2 : Nat) : Int) ≤ (s.size : Int) := by omega
  have HX := Lib.hid (fun t (ht : t < 1) hi => ext_at s 1 t ht hi)
  have HZ := Lib.hid hs
  obtain ⟨l, hl⟩ : ∃ l, l = (s.extract 1 (1 + 1)).data.toList := ⟨_, rfl⟩
  have hll : l.length = 1 := by rw [hl, size_data, ByteArray.size_extract]; omega
  rw [← hl] at HX ⊢
  have HL := Lib.hid hll
  clear hs hl hll
  go_enter Tryd.func15, Tryd.ntmps15
  go_wp2
  go_loop [9, 10] (fun v x => ∃ t : Nat, v = .int .i64 ((2 ^ t : Nat) : Int) ∧ x = .int .i64 ((24 + t : Nat) : Int) ∧ t ≤ 0) (fun _ x => 24 - (intOf x).toNat)
  case atStart => exact ⟨0, rfl, rfl, by omega⟩
  case round =>
    obtain ⟨t, rfl, rfl, ht⟩ := hrel
    have hcs : t = 0 := by omega
    rcases hcs with rfl
    · go_wp2
      go_loop [11, 12] (fun v x => ∃ (A t : Nat), v = .int .u64 (A : Int) ∧ x = .int .i64 ((t : Int) + 1) ∧ t ≤ 1 ∧ Hid (A = valL (l.take t))) (fun _ x => 2 - (intOf x).toNat)
      case atStart => exact ⟨0, 0, rfl, rfl, by omega, Lib.hid rfl⟩
      case round =>
        obtain ⟨A, t, rfl, rfl, ht, HA⟩ := hrel
        by_cases hlt : t < 1
        · have hi : t + 1 < s.size := by have := HZ.out; omega
          have hi2 : (t : Int) + 1 < (s.size : Int) := by omega
          have hA : A < 72057594037927936 := by
            have h1 := val_lt (l.take t)
            rw [← HA.out, List.length_take] at h1
            have h2 : 256 ^ (min t l.length) ≤ 256 ^ 7 := Nat.pow_le_pow_right (by decide) (by omega)
            omega
          obtain ⟨b, hb⟩ : ∃ b, b = (s[t + 1]'hi).toNat := ⟨_, rfl⟩
          have hb2 : b < 256 := by rw [hb]; exact (s[t + 1]'hi).toNat_lt
          have HV := Lib.hid (show A * 256 + b = valL (l.take (t + 1)) by rw [val_take l t (by rw [HL.out]; exact hlt), ← HA.out, HX.out t hlt hi, ← hb])
          have hv0 := hb.symm
          have hor := or_u64 A b hA hb2
          clear hb
          go_wp2
          go_round
          case rel => exact ⟨A * 256 + b, t + 1, by rw [Int.natCast_add, Int.natCast_mul]; rfl, rfl, by omega, HV⟩
          case measure => simp [intOf]; omega
        · obtain rfl : t = 1 := by omega
          have HE := Lib.hid (show A = valL l by rw [HA.out, ← HL.out, List.take_length])
          go_wp2
          go_quiet (fail)
          go_wp2
          rw [← HE.out]
          refine bodyPost_ret (v := .tuple #[.int .i64 (j : Int), .int .i64 24, .int .u64 (A : Int), .string (s.extract (1 + 1) s.size), .int .i64 0]) (by simp [results, Tryd.results15, go_sem]) rfl ?_
          exact ⟨rfl, below_drewN (Below.refl _ _) _⟩
set_option maxRecDepth 100000 in
set_option maxHeartbeats 1000000 in
theorem rRead_short25 (s : ByteArray) (c j k : Nat) (w : World) (h0 : 0 < s.size) (hc : (s[0]'h0).toNat = c) (hc2 : c < 256) (hq : (c : Int).tdiv 32 = (j : Int)) (hr : (c : Int).tmod 32 = (k : Int)) (hj : j < 8) (hk : k = 25) (hs : s.size < 3) : Calls Tryd.prog 15 #[.string s] w fun o w' => o = .returned (.tuple #[.int .i64 0, .int .i64 0, .int .u64 0, .string s, .int .i64 100]) ∧ Below w.heap.size w w' := by
  have hne := not_emptyH h0
  subst hk
  have hd4 : decide ((s.size : Int) < 3) = true := by simp; omega
  clear hs
  go_enter Tryd.func15, Tryd.ntmps15
  go_wp2
  go_loop [9, 10] (fun v x => ∃ t : Nat, v = .int .i64 ((2 ^ t : Nat) : Int) ∧ x = .int .i64 ((24 + t : Nat) : Int) ∧ t ≤ 1) (fun _ x => 25 - (intOf x).toNat)
  case atStart => exact ⟨0, rfl, rfl, by omega⟩
  case round =>
    obtain ⟨t, rfl, rfl, ht⟩ := hrel
    have hcs : t = 0 ∨ t = 1 := by omega
    rcases hcs with rfl | rfl
    · go_wp2
      go_round
      case rel => exact ⟨1, rfl, rfl, by omega⟩
      case measure => simp [intOf]
    · go_wp2
      refine bodyPost_ret (v := .tuple #[.int .i64 0, .int .i64 0, .int .u64 0, .string s, .int .i64 100]) (by simp [results, Tryd.results15, go_sem]) rfl ?_
      exact ⟨rfl, Below.refl _ _⟩
set_option maxRecDepth 100000 in
set_option maxHeartbeats 1000000 in
theorem rRead_yes25 (s : ByteArray) (c j k : Nat) (w : World) (h0 : 0 < s.size) (hc : (s[0]'h0).toNat = c) (hc2 : c < 256) (hq : (c : Int).tdiv 32 = (j : Int)) (hr : (c : Int).tmod 32 = (k : Int)) (hj : j < 8) (hk : k = 25) (hs : 1 + 2 ≤ s.size) : Calls Tryd.prog 15 #[.string s] w fun o w' => o = .returned (.tuple #[.int .i64 (j : Int), .int .i64 25, .int .u64 (valL (s.extract 1 (1 + 2)).data.toList : Int), .string (s.extract (1 + 2) s.size), .int .i64 0]) ∧ Below w.heap.size w w' := by
  have hne := not_emptyH h0
  subst hk
  have hd4 : decide ((s.size : Int) < 3) = false := by simp; omega
  have hle : ((3 : Nat) : Int) ≤ (s.size : Int) := by omega
  have HX := Lib.hid (fun t (ht : t < 2) hi => ext_at s 2 t ht hi)
  have HZ := Lib.hid hs
  obtain ⟨l, hl⟩ : ∃ l, l = (s.extract 1 (1 + 2)).data.toList := ⟨_, rfl⟩
  have hll : l.length = 2 := by rw [hl, size_data, ByteArray.size_extract]; omega
  rw [← hl] at HX ⊢
  have HL := Lib.hid hll
  clear hs hl hll
  go_enter Tryd.func15, Tryd.ntmps15
  go_wp2
  go_loop [9, 10] (fun v x => ∃ t : Nat, v = .int .i64 ((2 ^ t : Nat) : Int) ∧ x = .int .i64 ((24 + t : Nat) : Int) ∧ t ≤ 1) (fun _ x => 25 - (intOf x).toNat)
  case atStart => exact ⟨0, rfl, rfl, by omega⟩
  case round =>
    obtain ⟨t, rfl, rfl, ht⟩ := hrel
    have hcs : t = 0 ∨ t = 1 := by omega
    rcases hcs with rfl | rfl
    · go_wp2
      go_round
      case rel => exact ⟨1, rfl, rfl, by omega⟩
      case measure => simp [intOf]
    · go_wp2
      go_loop [11, 12] (fun v x => ∃ (A t : Nat), v = .int .u64 (A : Int) ∧ x = .int .i64 ((t : Int) + 1) ∧ t ≤ 2 ∧ Hid (A = valL (l.take t))) (fun _ x => 3 - (intOf x).toNat)
      case atStart => exact ⟨0, 0, rfl, rfl, by omega, Lib.hid rfl⟩
      case round =>
        obtain ⟨A, t, rfl, rfl, ht, HA⟩ := hrel
        by_cases hlt : t < 2
        · have hi : t + 1 < s.size := by have := HZ.out; omega
          have hi2 : (t : Int) + 1 < (s.size : Int) := by omega
          have hA : A < 72057594037927936 := by
            have h1 := val_lt (l.take t)
            rw [← HA.out, List.length_take] at h1
            have h2 : 256 ^ (min t l.length) ≤ 256 ^ 7 := Nat.pow_le_pow_right (by decide) (by omega)
            omega
          obtain ⟨b, hb⟩ : ∃ b, b = (s[t + 1]'hi).toNat := ⟨_, rfl⟩
          have hb2 : b < 256 := by rw [hb]; exact (s[t + 1]'hi).toNat_lt
          have HV := Lib.hid (show A * 256 + b = valL (l.take (t + 1)) by rw [val_take l t (by rw [HL.out]; exact hlt), ← HA.out, HX.out t hlt hi, ← hb])
          have hv0 := hb.symm
          have hor := or_u64 A b hA hb2
          clear hb
          go_wp2
          go_round
          case rel => exact ⟨A * 256 + b, t + 1, by rw [Int.natCast_add, Int.natCast_mul]; rfl, rfl, by omega, HV⟩
          case measure => simp [intOf]; omega
        · obtain rfl : t = 2 := by omega
          have HE := Lib.hid (show A = valL l by rw [HA.out, ← HL.out, List.take_length])
          go_wp2
          go_quiet (fail)
          go_wp2
          rw [← HE.out]
          refine bodyPost_ret (v := .tuple #[.int .i64 (j : Int), .int .i64 25, .int .u64 (A : Int), .string (s.extract (1 + 2) s.size), .int .i64 0]) (by simp [results, Tryd.results15, go_sem]) rfl ?_
          exact ⟨rfl, below_drewN (Below.refl _ _) _⟩
set_option maxRecDepth 100000 in
set_option maxHeartbeats 1000000 in
theorem rRead_short26 (s : ByteArray) (c j k : Nat) (w : World) (h0 : 0 < s.size) (hc : (s[0]'h0).toNat = c) (hc2 : c < 256) (hq : (c : Int).tdiv 32 = (j : Int)) (hr : (c : Int).tmod 32 = (k : Int)) (hj : j < 8) (hk : k = 26) (hs : s.size < 5) : Calls Tryd.prog 15 #[.string s] w fun o w' => o = .returned (.tuple #[.int .i64 0, .int .i64 0, .int .u64 0, .string s, .int .i64 100]) ∧ Below w.heap.size w w' := by
  have hne := not_emptyH h0
  subst hk
  have hd4 : decide ((s.size : Int) < 5) = true := by simp; omega
  clear hs
  go_enter Tryd.func15, Tryd.ntmps15
  go_wp2
  go_loop [9, 10] (fun v x => ∃ t : Nat, v = .int .i64 ((2 ^ t : Nat) : Int) ∧ x = .int .i64 ((24 + t : Nat) : Int) ∧ t ≤ 2) (fun _ x => 26 - (intOf x).toNat)
  case atStart => exact ⟨0, rfl, rfl, by omega⟩
  case round =>
    obtain ⟨t, rfl, rfl, ht⟩ := hrel
    have hcs : t = 0 ∨ t = 1 ∨ t = 2 := by omega
    rcases hcs with rfl | rfl | rfl
    · go_wp2
      go_round
      case rel => exact ⟨1, rfl, rfl, by omega⟩
      case measure => simp [intOf]
    · go_wp2
      go_round
      case rel => exact ⟨2, rfl, rfl, by omega⟩
      case measure => simp [intOf]
    · go_wp2
      refine bodyPost_ret (v := .tuple #[.int .i64 0, .int .i64 0, .int .u64 0, .string s, .int .i64 100]) (by simp [results, Tryd.results15, go_sem]) rfl ?_
      exact ⟨rfl, Below.refl _ _⟩
set_option maxRecDepth 100000 in
set_option maxHeartbeats 1000000 in
theorem rRead_yes26 (s : ByteArray) (c j k : Nat) (w : World) (h0 : 0 < s.size) (hc : (s[0]'h0).toNat = c) (hc2 : c < 256) (hq : (c : Int).tdiv 32 = (j : Int)) (hr : (c : Int).tmod 32 = (k : Int)) (hj : j < 8) (hk : k = 26) (hs : 1 + 4 ≤ s.size) : Calls Tryd.prog 15 #[.string s] w fun o w' => o = .returned (.tuple #[.int .i64 (j : Int), .int .i64 26, .int .u64 (valL (s.extract 1 (1 + 4)).data.toList : Int), .string (s.extract (1 + 4) s.size), .int .i64 0]) ∧ Below w.heap.size w w' := by
  have hne := not_emptyH h0
  subst hk
  have hd4 : decide ((s.size : Int) < 5) = false := by simp; omega
  have hle : ((5 : Nat) : Int) ≤ (s.size : Int) := by omega
  have HX := Lib.hid (fun t (ht : t < 4) hi => ext_at s 4 t ht hi)
  have HZ := Lib.hid hs
  obtain ⟨l, hl⟩ : ∃ l, l = (s.extract 1 (1 + 4)).data.toList := ⟨_, rfl⟩
  have hll : l.length = 4 := by rw [hl, size_data, ByteArray.size_extract]; omega
  rw [← hl] at HX ⊢
  have HL := Lib.hid hll
  clear hs hl hll
  go_enter Tryd.func15, Tryd.ntmps15
  go_wp2
  go_loop [9, 10] (fun v x => ∃ t : Nat, v = .int .i64 ((2 ^ t : Nat) : Int) ∧ x = .int .i64 ((24 + t : Nat) : Int) ∧ t ≤ 2) (fun _ x => 26 - (intOf x).toNat)
  case atStart => exact ⟨0, rfl, rfl, by omega⟩
  case round =>
    obtain ⟨t, rfl, rfl, ht⟩ := hrel
    have hcs : t = 0 ∨ t = 1 ∨ t = 2 := by omega
    rcases hcs with rfl | rfl | rfl
    · go_wp2
      go_round
      case rel => exact ⟨1, rfl, rfl, by omega⟩
      case measure => simp [intOf]
    · go_wp2
      go_round
      case rel => exact ⟨2, rfl, rfl, by omega⟩
      case measure => simp [intOf]
    · go_wp2
      go_loop [11, 12] (fun v x => ∃ (A t : Nat), v = .int .u64 (A : Int) ∧ x = .int .i64 ((t : Int) + 1) ∧ t ≤ 4 ∧ Hid (A = valL (l.take t))) (fun _ x => 5 - (intOf x).toNat)
      case atStart => exact ⟨0, 0, rfl, rfl, by omega, Lib.hid rfl⟩
      case round =>
        obtain ⟨A, t, rfl, rfl, ht, HA⟩ := hrel
        by_cases hlt : t < 4
        · have hi : t + 1 < s.size := by have := HZ.out; omega
          have hi2 : (t : Int) + 1 < (s.size : Int) := by omega
          have hA : A < 72057594037927936 := by
            have h1 := val_lt (l.take t)
            rw [← HA.out, List.length_take] at h1
            have h2 : 256 ^ (min t l.length) ≤ 256 ^ 7 := Nat.pow_le_pow_right (by decide) (by omega)
            omega
          obtain ⟨b, hb⟩ : ∃ b, b = (s[t + 1]'hi).toNat := ⟨_, rfl⟩
          have hb2 : b < 256 := by rw [hb]; exact (s[t + 1]'hi).toNat_lt
          have HV := Lib.hid (show A * 256 + b = valL (l.take (t + 1)) by rw [val_take l t (by rw [HL.out]; exact hlt), ← HA.out, HX.out t hlt hi, ← hb])
          have hv0 := hb.symm
          have hor := or_u64 A b hA hb2
          clear hb
          go_wp2
          go_round
          case rel => exact ⟨A * 256 + b, t + 1, by rw [Int.natCast_add, Int.natCast_mul]; rfl, rfl, by omega, HV⟩
          case measure => simp [intOf]; omega
        · obtain rfl : t = 4 := by omega
          have HE := Lib.hid (show A = valL l by rw [HA.out, ← HL.out, List.take_length])
          go_wp2
          go_quiet (fail)
          go_wp2
          rw [← HE.out]
          refine bodyPost_ret (v := .tuple #[.int .i64 (j : Int), .int .i64 26, .int .u64 (A : Int), .string (s.extract (1 + 4) s.size), .int .i64 0]) (by simp [results, Tryd.results15, go_sem]) rfl ?_
          exact ⟨rfl, below_drewN (Below.refl _ _) _⟩
set_option maxRecDepth 100000 in
set_option maxHeartbeats 1000000 in
theorem rRead_short27 (s : ByteArray) (c j k : Nat) (w : World) (h0 : 0 < s.size) (hc : (s[0]'h0).toNat = c) (hc2 : c < 256) (hq : (c : Int).tdiv 32 = (j : Int)) (hr : (c : Int).tmod 32 = (k : Int)) (hj : j < 8) (hk : k = 27) (hs : s.size < 9) : Calls Tryd.prog 15 #[.string s] w fun o w' => o = .returned (.tuple #[.int .i64 0, .int .i64 0, .int .u64 0, .string s, .int .i64 100]) ∧ Below w.heap.size w w' := by
  have hne := not_emptyH h0
  subst hk
  have hd4 : decide ((s.size : Int) < 9) = true := by simp; omega
  clear hs
  go_enter Tryd.func15, Tryd.ntmps15
  go_wp2
  go_loop [9, 10] (fun v x => ∃ t : Nat, v = .int .i64 ((2 ^ t : Nat) : Int) ∧ x = .int .i64 ((24 + t : Nat) : Int) ∧ t ≤ 3) (fun _ x => 27 - (intOf x).toNat)
  case atStart => exact ⟨0, rfl, rfl, by omega⟩
  case round =>
    obtain ⟨t, rfl, rfl, ht⟩ := hrel
    have hcs : t = 0 ∨ t = 1 ∨ t = 2 ∨ t = 3 := by omega
    rcases hcs with rfl | rfl | rfl | rfl
    · go_wp2
      go_round
      case rel => exact ⟨1, rfl, rfl, by omega⟩
      case measure => simp [intOf]
    · go_wp2
      go_round
      case rel => exact ⟨2, rfl, rfl, by omega⟩
      case measure => simp [intOf]
    · go_wp2
      go_round
      case rel => exact ⟨3, rfl, rfl, by omega⟩
      case measure => simp [intOf]
    · go_wp2
      refine bodyPost_ret (v := .tuple #[.int .i64 0, .int .i64 0, .int .u64 0, .string s, .int .i64 100]) (by simp [results, Tryd.results15, go_sem]) rfl ?_
      exact ⟨rfl, Below.refl _ _⟩
set_option maxRecDepth 100000 in
set_option maxHeartbeats 1000000 in
theorem rRead_yes27 (s : ByteArray) (c j k : Nat) (w : World) (h0 : 0 < s.size) (hc : (s[0]'h0).toNat = c) (hc2 : c < 256) (hq : (c : Int).tdiv 32 = (j : Int)) (hr : (c : Int).tmod 32 = (k : Int)) (hj : j < 8) (hk : k = 27) (hs : 1 + 8 ≤ s.size) : Calls Tryd.prog 15 #[.string s] w fun o w' => o = .returned (.tuple #[.int .i64 (j : Int), .int .i64 27, .int .u64 (valL (s.extract 1 (1 + 8)).data.toList : Int), .string (s.extract (1 + 8) s.size), .int .i64 0]) ∧ Below w.heap.size w w' := by
  have hne := not_emptyH h0
  subst hk
  have hd4 : decide ((s.size : Int) < 9) = false := by simp; omega
  have hle : ((9 : Nat) : Int) ≤ (s.size : Int) := by omega
  have HX := Lib.hid (fun t (ht : t < 8) hi => ext_at s 8 t ht hi)
  have HZ := Lib.hid hs
  obtain ⟨l, hl⟩ : ∃ l, l = (s.extract 1 (1 + 8)).data.toList := ⟨_, rfl⟩
  have hll : l.length = 8 := by rw [hl, size_data, ByteArray.size_extract]; omega
  rw [← hl] at HX ⊢
  have HL := Lib.hid hll
  clear hs hl hll
  go_enter Tryd.func15, Tryd.ntmps15
  go_wp2
  go_loop [9, 10] (fun v x => ∃ t : Nat, v = .int .i64 ((2 ^ t : Nat) : Int) ∧ x = .int .i64 ((24 + t : Nat) : Int) ∧ t ≤ 3) (fun _ x => 27 - (intOf x).toNat)
  case atStart => exact ⟨0, rfl, rfl, by omega⟩
  case round =>
    obtain ⟨t, rfl, rfl, ht⟩ := hrel
    have hcs : t = 0 ∨ t = 1 ∨ t = 2 ∨ t = 3 := by omega
    rcases hcs with rfl | rfl | rfl | rfl
    · go_wp2
      go_round
      case rel => exact ⟨1, rfl, rfl, by omega⟩
      case measure => simp [intOf]
    · go_wp2
      go_round
      case rel => exact ⟨2, rfl, rfl, by omega⟩
      case measure => simp [intOf]
    · go_wp2
      go_round
      case rel => exact ⟨3, rfl, rfl, by omega⟩
      case measure => simp [intOf]
    · go_wp2
      go_loop [11, 12] (fun v x => ∃ (A t : Nat), v = .int .u64 (A : Int) ∧ x = .int .i64 ((t : Int) + 1) ∧ t ≤ 8 ∧ Hid (A = valL (l.take t))) (fun _ x => 9 - (intOf x).toNat)
      case atStart => exact ⟨0, 0, rfl, rfl, by omega, Lib.hid rfl⟩
      case round =>
        obtain ⟨A, t, rfl, rfl, ht, HA⟩ := hrel
        by_cases hlt : t < 8
        · have hi : t + 1 < s.size := by have := HZ.out; omega
          have hi2 : (t : Int) + 1 < (s.size : Int) := by omega
          have hA : A < 72057594037927936 := by
            have h1 := val_lt (l.take t)
            rw [← HA.out, List.length_take] at h1
            have h2 : 256 ^ (min t l.length) ≤ 256 ^ 7 := Nat.pow_le_pow_right (by decide) (by omega)
            omega
          obtain ⟨b, hb⟩ : ∃ b, b = (s[t + 1]'hi).toNat := ⟨_, rfl⟩
          have hb2 : b < 256 := by rw [hb]; exact (s[t + 1]'hi).toNat_lt
          have HV := Lib.hid (show A * 256 + b = valL (l.take (t + 1)) by rw [val_take l t (by rw [HL.out]; exact hlt), ← HA.out, HX.out t hlt hi, ← hb])
          have hv0 := hb.symm
          have hor := or_u64 A b hA hb2
          clear hb
          go_wp2
          go_round
          case rel => exact ⟨A * 256 + b, t + 1, by rw [Int.natCast_add, Int.natCast_mul]; rfl, rfl, by omega, HV⟩
          case measure => simp [intOf]; omega
        · obtain rfl : t = 8 := by omega
          have HE := Lib.hid (show A = valL l by rw [HA.out, ← HL.out, List.take_length])
          go_wp2
          go_quiet (fail)
          go_wp2
          rw [← HE.out]
          refine bodyPost_ret (v := .tuple #[.int .i64 (j : Int), .int .i64 27, .int .u64 (A : Int), .string (s.extract (1 + 8) s.size), .int .i64 0]) (by simp [results, Tryd.results15, go_sem]) rfl ?_
          exact ⟨rfl, below_drewN (Below.refl _ _) _⟩
theorem rRead_ans (s : ByteArray) : AnsH 15 #[.string s] (rdV (readT s)) := fun w _ => by
  by_cases h0 : s.size = 0
  · have e : readT s = (0, 0, 0, s, 100) := by rw [readT, if_pos h0]
    have es : s = ⟨#[]⟩ := str_inj (List.eq_nil_of_length_eq_zero (by rw [size_data]; exact h0))
    rw [e, es]
    exact rRead_empty w
  · have h1 : 0 < s.size := by omega
    obtain ⟨c, hc⟩ : ∃ c, c = (byteAt s 0).toNat := ⟨_, rfl⟩
    have hb : (s[0]'h1).toNat = c := by rw [hc, byteAt_eq s 0 h1]
    have hc2 : c < 256 := by rw [hc]; exact (byteAt s 0).toNat_lt
    have hq : (c : Int).tdiv 32 = ((c / 32 : Nat) : Int) := rfl
    have hr : (c : Int).tmod 32 = ((c % 32 : Nat) : Int) := rfl
    have hj : c / 32 < 8 := by omega
    have hl : c % 32 < 32 := by omega
    unfold readT
    rw [if_neg h0, ← hc]
    obtain ⟨k, hk⟩ : ∃ k, k = c % 32 := ⟨_, rfl⟩
    obtain ⟨j, hjj⟩ : ∃ j, j = c / 32 := ⟨_, rfl⟩
    rw [← hk] at hr hl ⊢
    rw [← hjj] at hq hj ⊢
    clear hk hjj
    by_cases h24 : k < 24
    · rw [show nby k = some 0 by rw [nby, if_pos h24]]
      show Calls _ _ _ _ fun e w' => e = .returned (rdV (if s.size < 1 + 0 then _ else _)) ∧ _
      rw [if_neg (by omega), argV, if_pos h24]
      exact rRead_little s c j k w h1 hb hc2 hq hr hj h24
    by_cases h31 : k = 31
    · subst h31
      show Calls _ _ _ _ fun e w' => e = .returned (rdV (if s.size < 1 + 0 then _ else _)) ∧ _
      have e : valL (s.extract 1 (1 + 0)).data.toList = 0 := by
        have h : (s.extract 1 (1 + 0)).data.toList = [] := List.eq_nil_of_length_eq_zero (by rw [size_data, ByteArray.size_extract]; omega)
        rw [h]; rfl
      rw [if_neg (by omega), argV, if_neg (by omega), e]
      exact rRead_open s c j 31 w h1 hb hc2 hq hr hj rfl
    by_cases h27 : 27 < k
    · have e : nby k = none := by
        have : k = 28 ∨ k = 29 ∨ k = 30 := by omega
        rcases this with rfl | rfl | rfl <;> rfl
      rw [e]
      exact rRead_bad s c j k w h1 hb hc2 hq hr hj h27 (by omega)
    have hk : k = 24 ∨ k = 25 ∨ k = 26 ∨ k = 27 := by omega
    rcases hk with rfl | rfl | rfl | rfl
    · show Calls _ _ _ _ fun e w' => e = .returned (rdV (if s.size < 1 + 1 then _ else _)) ∧ _
      by_cases hs : s.size < 1 + 1
      · rw [if_pos hs]
        exact rRead_short24 s c j 24 w h1 hb hc2 hq hr hj rfl (by omega)
      · rw [if_neg hs, argV, if_neg (by omega)]
        exact rRead_yes24 s c j 24 w h1 hb hc2 hq hr hj rfl (by omega)
    · show Calls _ _ _ _ fun e w' => e = .returned (rdV (if s.size < 1 + 2 then _ else _)) ∧ _
      by_cases hs : s.size < 1 + 2
      · rw [if_pos hs]
        exact rRead_short25 s c j 25 w h1 hb hc2 hq hr hj rfl (by omega)
      · rw [if_neg hs, argV, if_neg (by omega)]
        exact rRead_yes25 s c j 25 w h1 hb hc2 hq hr hj rfl (by omega)
    · show Calls _ _ _ _ fun e w' => e = .returned (rdV (if s.size < 1 + 4 then _ else _)) ∧ _
      by_cases hs : s.size < 1 + 4
      · rw [if_pos hs]
        exact rRead_short26 s c j 26 w h1 hb hc2 hq hr hj rfl (by omega)
      · rw [if_neg hs, argV, if_neg (by omega)]
        exact rRead_yes26 s c j 26 w h1 hb hc2 hq hr hj rfl (by omega)
    · show Calls _ _ _ _ fun e w' => e = .returned (rdV (if s.size < 1 + 8 then _ else _)) ∧ _
      by_cases hs : s.size < 1 + 8
      · rw [if_pos hs]
        exact rRead_short27 s c j 27 w h1 hb hc2 hq hr hj rfl (by omega)
      · rw [if_neg hs, argV, if_neg (by omega)]
        exact rRead_yes27 s c j 27 w h1 hb hc2 hq hr hj rfl (by omega)
end Go.Proofs.YtgaaiiacdeejfaaDoor
