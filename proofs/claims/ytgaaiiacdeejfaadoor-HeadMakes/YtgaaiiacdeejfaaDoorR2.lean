/- The document's own: Make. -/
import Derived.Test.YtgaaiiacdeejfaaDoorR1
namespace Go.Proofs.YtgaaiiacdeejfaaDoor
open Go.RowKit

set_option maxRecDepth 100000 in
set_option maxHeartbeats 1000000 in
theorem rMake_no (m : Int) (a : Nat) (w : World) (hm : m < 0 ∨ 7 < m) : Calls Tryd.prog 12 #[.int .i64 m, .int .u64 (a : Int)] w fun o w' => o = .returned (.tuple #[.string noB, .int .i64 2]) ∧ Below w.heap.size w w' := by
  rcases hm with h | h
  · have hd : decide (m < 0) = true := by simpa using h
    go_enter Tryd.func12, Tryd.ntmps12
    go_wp2
    go_ret2
    exact ⟨rfl, Below.refl _ _⟩
  · have hd : decide (m < 0) = false := by simp; omega
    have hd2 : decide (7 < m) = true := by simpa using h
    go_enter Tryd.func12, Tryd.ntmps12
    go_wp2
    go_ret2
    exact ⟨rfl, Below.refl _ _⟩
theorem conv1 (W : World) (x : Int) (c : UInt8) (hx : x = (c.toNat : Int)) : (convert 38 9 (.slice (some ⟨W.heap.size, 0, none⟩) 1 1)).run Tryd.prog (W.alloc (.cells #[.int .u8 x] 5)) = .ok (.string ⟨#[c]⟩) (W.alloc (.cells #[.int .u8 x] 5)) := by
  subst hx
  exact conv_own (base := W.heap.size) (zs := [c]) (owns_at (l := [c]) (At.new W _ _) (Nat.le_refl _) (by simp))
theorem c_nat {m I : Nat} (hm : m < 8) (hI : I < 32) : (32 * (m : Int) + (I : Int)) = ((UInt8.ofNat (32 * m + I)).toNat : Int) := by
  rw [UInt8.toNat_ofNat', Nat.mod_eq_of_lt (by omega)]; omega
theorem c_byte {a n : Nat} {x : Int} (h : x = (a : Int) / (n : Int) % 256) : x = ((UInt8.ofNat (a / n)).toNat : Int) := by
  rw [h, UInt8.toNat_ofNat']; rfl
theorem cons_add (c : UInt8) (l : List UInt8) : (⟨#[c]⟩ : ByteArray) ++ ⟨l.toArray⟩ = ⟨(c :: l).toArray⟩ := str_inj (by simp)
set_option maxRecDepth 100000 in
set_option maxHeartbeats 1000000 in
theorem rMake_small (m a : Nat) (w : World) (hm : m < 8) (ha : a < 24) : Calls Tryd.prog 12 #[.int .i64 (m : Int), .int .u64 (a : Int)] w fun o w' => o = .returned (.tuple #[.string ⟨#[UInt8.ofNat (32 * m + a)]⟩, .int .i64 0]) ∧ Below w.heap.size w w' := by
  have hd : decide ((m : Int) < 0) = false := by simp
  have hd2 : decide (7 < (m : Int)) = false := by simp; omega
  have HS := Lib.hid (fun W => rextra_calls a W)
  rw [show hext a = 0 by rw [hext, if_pos ha]] at HS
  obtain ⟨C, hC⟩ : ∃ C : ByteArray, C = ⟨#[UInt8.ofNat (32 * m + a)]⟩ := ⟨_, rfl⟩
  have hcv := fun W => conv1 W _ _ (c_nat hm (show a < 32 by omega))
  rw [← hC] at hcv ⊢
  clear hC
  go_enter Tryd.func12, Tryd.ntmps12
  go_wp2_with (go_at_call 23; refine (HS.out _).mono ?_; rintro e w1 ⟨rfl, rfl⟩)
  go_ret2
  exact ⟨rfl, below_al (Below.refl _ _) _⟩
theorem big_size (k a : Nat) : (⟨(bigL k a).toArray⟩ : ByteArray).size = k := by
  show (bigL k a).toArray.size = k
  rw [List.size_toArray, bigL_len]
set_option maxRecDepth 100000 in
set_option maxHeartbeats 1000000 in
theorem rMake1 (m a I : Nat) (w : World) (hm : m < 8) (hI : I < 32) (h1 : hext a = 1) (h2 : infoN 1 = I) : Calls Tryd.prog 12 #[.int .i64 (m : Int), .int .u64 (a : Int)] w fun o w' => o = .returned (.tuple #[.string ⟨(UInt8.ofNat (32 * m + I) :: bigL 1 a).toArray⟩, .int .i64 0]) ∧ Below w.heap.size w w' := by
  have hd : decide ((m : Int) < 0) = false := by simp
  have hd2 : decide (7 < (m : Int)) = false := by simp; omega
  have HS := Lib.hid (fun W => rextra_calls a W)
  have HI := Lib.hid (fun W => rinfo_calls 1 W (by simp))
  rw [h1] at HS
  rw [h2] at HI
  clear h1 h2
  go_enter Tryd.func12, Tryd.ntmps12
  go_wp2_with (go_at_call 23; refine (HS.out _).mono ?_; rintro e w1 ⟨rfl, rfl⟩)
  go_loopw [7, 8] (fun v i wr => ∃ k : Nat, v = .string ⟨(bigL k a).toArray⟩ ∧ i = .int .i64 k ∧ k ≤ 1 ∧ Below w.heap.size w wr) (fun _ i _ => 1 - (intOf i).toNat)
  case atStart => exact ⟨0, rfl, rfl, by omega, Below.refl _ _⟩
  case round =>
    obtain ⟨k, rfl, rfl, hk, hb⟩ := hrel
    have HB := Lib.hid hb
    clear hb
    have hcs : k = 0 ∨ k = 1 := by omega
    have HSz := Lib.hid (big_size k a)
    obtain ⟨S, hS⟩ : ∃ S : ByteArray, S = ⟨(bigL k a).toArray⟩ := ⟨_, rfl⟩
    rw [← hS] at HSz ⊢
    have hSs : S.size ≤ 8 := by have := HSz.out; omega
    have HSe := Lib.hid hS
    clear hS HSz
    rcases hcs with rfl | rfl
    · obtain ⟨C, hC⟩ : ∃ C : ByteArray, C = ⟨#[UInt8.ofNat (a / 1)]⟩ := ⟨_, rfl⟩
      have hCs : C.size ≤ 1 := by rw [hC]; exact Nat.le_refl _
      have hcv := fun W => conv1 W ((a : Int) % 256) (UInt8.ofNat (a / 1)) (c_byte (n := 1) (by simp))
      rw [← hC] at hcv
      have HCe := Lib.hid (show C ++ S = ⟨(bigL 1 a).toArray⟩ by rw [hC, HSe.out, cons_add]; rfl)
      clear hC
      go_wp2
      go_roundw
      case rel => exact ⟨1, by rw [HCe.out], rfl, by omega, below_al HB.out _⟩
      case measure => simp [intOf]
    · obtain ⟨C, hC⟩ : ∃ C : ByteArray, C = ⟨#[UInt8.ofNat (32 * m + I)]⟩ := ⟨_, rfl⟩
      have hCs : C.size ≤ 1 := by rw [hC]; exact Nat.le_refl _
      have hcv := fun W => conv1 W _ _ (c_nat hm hI)
      rw [← hC] at hcv
      have HCe := Lib.hid (show C ++ S = ⟨(UInt8.ofNat (32 * m + I) :: bigL 1 a).toArray⟩ by rw [hC, HSe.out, cons_add])
      clear hC
      go_wp2_with (go_at_call 24; refine (HI.out _).mono ?_; rintro e w1 ⟨rfl, rfl⟩)
      go_ret2
      exact ⟨by rw [← HCe.out]; rfl, below_al HB.out _⟩
set_option maxRecDepth 100000 in
set_option maxHeartbeats 1000000 in
theorem rMake2 (m a I : Nat) (w : World) (hm : m < 8) (hI : I < 32) (h1 : hext a = 2) (h2 : infoN 2 = I) : Calls Tryd.prog 12 #[.int .i64 (m : Int), .int .u64 (a : Int)] w fun o w' => o = .returned (.tuple #[.string ⟨(UInt8.ofNat (32 * m + I) :: bigL 2 a).toArray⟩, .int .i64 0]) ∧ Below w.heap.size w w' := by
  have hd : decide ((m : Int) < 0) = false := by simp
  have hd2 : decide (7 < (m : Int)) = false := by simp; omega
  have HS := Lib.hid (fun W => rextra_calls a W)
  have HI := Lib.hid (fun W => rinfo_calls 2 W (by simp))
  rw [h1] at HS
  rw [h2] at HI
  clear h1 h2
  go_enter Tryd.func12, Tryd.ntmps12
  go_wp2_with (go_at_call 23; refine (HS.out _).mono ?_; rintro e w1 ⟨rfl, rfl⟩)
  go_loopw [7, 8] (fun v i wr => ∃ k : Nat, v = .string ⟨(bigL k a).toArray⟩ ∧ i = .int .i64 k ∧ k ≤ 2 ∧ Below w.heap.size w wr) (fun _ i _ => 2 - (intOf i).toNat)
  case atStart => exact ⟨0, rfl, rfl, by omega, Below.refl _ _⟩
  case round =>
    obtain ⟨k, rfl, rfl, hk, hb⟩ := hrel
    have HB := Lib.hid hb
    clear hb
    have hcs : k = 0 ∨ k = 1 ∨ k = 2 := by omega
    have HSz := Lib.hid (big_size k a)
    obtain ⟨S, hS⟩ : ∃ S : ByteArray, S = ⟨(bigL k a).toArray⟩ := ⟨_, rfl⟩
    rw [← hS] at HSz ⊢
    have hSs : S.size ≤ 8 := by have := HSz.out; omega
    have HSe := Lib.hid hS
    clear hS HSz
    rcases hcs with rfl | rfl | rfl
    · obtain ⟨C, hC⟩ : ∃ C : ByteArray, C = ⟨#[UInt8.ofNat (a / 1)]⟩ := ⟨_, rfl⟩
      have hCs : C.size ≤ 1 := by rw [hC]; exact Nat.le_refl _
      have hcv := fun W => conv1 W ((a : Int) % 256) (UInt8.ofNat (a / 1)) (c_byte (n := 1) (by simp))
      rw [← hC] at hcv
      have HCe := Lib.hid (show C ++ S = ⟨(bigL 1 a).toArray⟩ by rw [hC, HSe.out, cons_add]; rfl)
      clear hC
      go_wp2
      go_roundw
      case rel => exact ⟨1, by rw [HCe.out], rfl, by omega, below_al HB.out _⟩
      case measure => simp [intOf]
    · obtain ⟨C, hC⟩ : ∃ C : ByteArray, C = ⟨#[UInt8.ofNat (a / 256)]⟩ := ⟨_, rfl⟩
      have hCs : C.size ≤ 1 := by rw [hC]; exact Nat.le_refl _
      have hcv := fun W => conv1 W ((a : Int) / 256 % 256) (UInt8.ofNat (a / 256)) (c_byte (n := 256) (by simp))
      rw [← hC] at hcv
      have HCe := Lib.hid (show C ++ S = ⟨(bigL 2 a).toArray⟩ by rw [hC, HSe.out, cons_add]; rfl)
      clear hC
      go_wp2
      go_roundw
      case rel => exact ⟨2, by rw [HCe.out], rfl, by omega, below_al HB.out _⟩
      case measure => simp [intOf]
    · obtain ⟨C, hC⟩ : ∃ C : ByteArray, C = ⟨#[UInt8.ofNat (32 * m + I)]⟩ := ⟨_, rfl⟩
      have hCs : C.size ≤ 1 := by rw [hC]; exact Nat.le_refl _
      have hcv := fun W => conv1 W _ _ (c_nat hm hI)
      rw [← hC] at hcv
      have HCe := Lib.hid (show C ++ S = ⟨(UInt8.ofNat (32 * m + I) :: bigL 2 a).toArray⟩ by rw [hC, HSe.out, cons_add])
      clear hC
      go_wp2_with (go_at_call 24; refine (HI.out _).mono ?_; rintro e w1 ⟨rfl, rfl⟩)
      go_ret2
      exact ⟨by rw [← HCe.out]; rfl, below_al HB.out _⟩
set_option maxRecDepth 100000 in
set_option maxHeartbeats 1000000 in
theorem rMake4 (m a I : Nat) (w : World) (hm : m < 8) (hI : I < 32) (h1 : hext a = 4) (h2 : infoN 4 = I) : Calls Tryd.prog 12 #[.int .i64 (m : Int), .int .u64 (a : Int)] w fun o w' => o = .returned (.tuple #[.string ⟨(UInt8.ofNat (32 * m + I) :: bigL 4 a).toArray⟩, .int .i64 0]) ∧ Below w.heap.size w w' := by
  have hd : decide ((m : Int) < 0) = false := by simp
  have hd2 : decide (7 < (m : Int)) = false := by simp; omega
  have HS := Lib.hid (fun W => rextra_calls a W)
  have HI := Lib.hid (fun W => rinfo_calls 4 W (by simp))
  rw [h1] at HS
  rw [h2] at HI
  clear h1 h2
  go_enter Tryd.func12, Tryd.ntmps12
  go_wp2_with (go_at_call 23; refine (HS.out _).mono ?_; rintro e w1 ⟨rfl, rfl⟩)
  go_loopw [7, 8] (fun v i wr => ∃ k : Nat, v = .string ⟨(bigL k a).toArray⟩ ∧ i = .int .i64 k ∧ k ≤ 4 ∧ Below w.heap.size w wr) (fun _ i _ => 4 - (intOf i).toNat)
  case atStart => exact ⟨0, rfl, rfl, by omega, Below.refl _ _⟩
  case round =>
    obtain ⟨k, rfl, rfl, hk, hb⟩ := hrel
    have HB := Lib.hid hb
    clear hb
    have hcs : k = 0 ∨ k = 1 ∨ k = 2 ∨ k = 3 ∨ k = 4 := by omega
    have HSz := Lib.hid (big_size k a)
    obtain ⟨S, hS⟩ : ∃ S : ByteArray, S = ⟨(bigL k a).toArray⟩ := ⟨_, rfl⟩
    rw [← hS] at HSz ⊢
    have hSs : S.size ≤ 8 := by have := HSz.out; omega
    have HSe := Lib.hid hS
    clear hS HSz
    rcases hcs with rfl | rfl | rfl | rfl | rfl
    · obtain ⟨C, hC⟩ : ∃ C : ByteArray, C = ⟨#[UInt8.ofNat (a / 1)]⟩ := ⟨_, rfl⟩
      have hCs : C.size ≤ 1 := by rw [hC]; exact Nat.le_refl _
      have hcv := fun W => conv1 W ((a : Int) % 256) (UInt8.ofNat (a / 1)) (c_byte (n := 1) (by simp))
      rw [← hC] at hcv
      have HCe := Lib.hid (show C ++ S = ⟨(bigL 1 a).toArray⟩ by rw [hC, HSe.out, cons_add]; rfl)
      clear hC
      go_wp2
      go_roundw
      case rel => exact ⟨1, by rw [HCe.out], rfl, by omega, below_al HB.out _⟩
      case measure => simp [intOf]
    · obtain ⟨C, hC⟩ : ∃ C : ByteArray, C = ⟨#[UInt8.ofNat (a / 256)]⟩ := ⟨_, rfl⟩
      have hCs : C.size ≤ 1 := by rw [hC]; exact Nat.le_refl _
      have hcv := fun W => conv1 W ((a : Int) / 256 % 256) (UInt8.ofNat (a / 256)) (c_byte (n := 256) (by simp))
      rw [← hC] at hcv
      have HCe := Lib.hid (show C ++ S = ⟨(bigL 2 a).toArray⟩ by rw [hC, HSe.out, cons_add]; rfl)
      clear hC
      go_wp2
      go_roundw
      case rel => exact ⟨2, by rw [HCe.out], rfl, by omega, below_al HB.out _⟩
      case measure => simp [intOf]
    · obtain ⟨C, hC⟩ : ∃ C : ByteArray, C = ⟨#[UInt8.ofNat (a / 65536)]⟩ := ⟨_, rfl⟩
      have hCs : C.size ≤ 1 := by rw [hC]; exact Nat.le_refl _
      have hcv := fun W => conv1 W ((a : Int) / 65536 % 256) (UInt8.ofNat (a / 65536)) (c_byte (n := 65536) (by simp))
      rw [← hC] at hcv
      have HCe := Lib.hid (show C ++ S = ⟨(bigL 3 a).toArray⟩ by rw [hC, HSe.out, cons_add]; rfl)
      clear hC
      go_wp2
      go_roundw
      case rel => exact ⟨3, by rw [HCe.out], rfl, by omega, below_al HB.out _⟩
      case measure => simp [intOf]
    · obtain ⟨C, hC⟩ : ∃ C : ByteArray, C = ⟨#[UInt8.ofNat (a / 16777216)]⟩ := ⟨_, rfl⟩
      have hCs : C.size ≤ 1 := by rw [hC]; exact Nat.le_refl _
      have hcv := fun W => conv1 W ((a : Int) / 16777216 % 256) (UInt8.ofNat (a / 16777216)) (c_byte (n := 16777216) (by simp))
      rw [← hC] at hcv
      have HCe := Lib.hid (show C ++ S = ⟨(bigL 4 a).toArray⟩ by rw [hC, HSe.out, cons_add]; rfl)
      clear hC
      go_wp2
      go_roundw
      case rel => exact ⟨4, by rw [HCe.out], rfl, by omega, below_al HB.out _⟩
      case measure => simp [intOf]
    · obtain ⟨C, hC⟩ : ∃ C : ByteArray, C = ⟨#[UInt8.ofNat (32 * m + I)]⟩ := ⟨_, rfl⟩
      have hCs : C.size ≤ 1 := by rw [hC]; exact Nat.le_refl _
      have hcv := fun W => conv1 W _ _ (c_nat hm hI)
      rw [← hC] at hcv
      have HCe := Lib.hid (show C ++ S = ⟨(UInt8.ofNat (32 * m + I) :: bigL 4 a).toArray⟩ by rw [hC, HSe.out, cons_add])
      clear hC
      go_wp2_with (go_at_call 24; refine (HI.out _).mono ?_; rintro e w1 ⟨rfl, rfl⟩)
      go_ret2
      exact ⟨by rw [← HCe.out]; rfl, below_al HB.out _⟩
set_option maxRecDepth 100000 in
set_option maxHeartbeats 1000000 in
theorem rMake8 (m a I : Nat) (w : World) (hm : m < 8) (hI : I < 32) (h1 : hext a = 8) (h2 : infoN 8 = I) : Calls Tryd.prog 12 #[.int .i64 (m : Int), .int .u64 (a : Int)] w fun o w' => o = .returned (.tuple #[.string ⟨(UInt8.ofNat (32 * m + I) :: bigL 8 a).toArray⟩, .int .i64 0]) ∧ Below w.heap.size w w' := by
  have hd : decide ((m : Int) < 0) = false := by simp
  have hd2 : decide (7 < (m : Int)) = false := by simp; omega
  have HS := Lib.hid (fun W => rextra_calls a W)
  have HI := Lib.hid (fun W => rinfo_calls 8 W (by simp))
  rw [h1] at HS
  rw [h2] at HI
  clear h1 h2
  go_enter Tryd.func12, Tryd.ntmps12
  go_wp2_with (go_at_call 23; refine (HS.out _).mono ?_; rintro e w1 ⟨rfl, rfl⟩)
  go_loopw [7, 8] (fun v i wr => ∃ k : Nat, v = .string ⟨(bigL k a).toArray⟩ ∧ i = .int .i64 k ∧ k ≤ 8 ∧ Below w.heap.size w wr) (fun _ i _ => 8 - (intOf i).toNat)
  case atStart => exact ⟨0, rfl, rfl, by omega, Below.refl _ _⟩
  case round =>
    obtain ⟨k, rfl, rfl, hk, hb⟩ := hrel
    have HB := Lib.hid hb
    clear hb
    have hcs : k = 0 ∨ k = 1 ∨ k = 2 ∨ k = 3 ∨ k = 4 ∨ k = 5 ∨ k = 6 ∨ k = 7 ∨ k = 8 := by omega
    have HSz := Lib.hid (big_size k a)
    obtain ⟨S, hS⟩ : ∃ S : ByteArray, S = ⟨(bigL k a).toArray⟩ := ⟨_, rfl⟩
    rw [← hS] at HSz ⊢
    have hSs : S.size ≤ 8 := by have := HSz.out; omega
    have HSe := Lib.hid hS
    clear hS HSz
    rcases hcs with rfl | rfl | rfl | rfl | rfl | rfl | rfl | rfl | rfl
    · obtain ⟨C, hC⟩ : ∃ C : ByteArray, C = ⟨#[UInt8.ofNat (a / 1)]⟩ := ⟨_, rfl⟩
      have hCs : C.size ≤ 1 := by rw [hC]; exact Nat.le_refl _
      have hcv := fun W => conv1 W ((a : Int) % 256) (UInt8.ofNat (a / 1)) (c_byte (n := 1) (by simp))
      rw [← hC] at hcv
      have HCe := Lib.hid (show C ++ S = ⟨(bigL 1 a).toArray⟩ by rw [hC, HSe.out, cons_add]; rfl)
      clear hC
      go_wp2
      go_roundw
      case rel => exact ⟨1, by rw [HCe.out], rfl, by omega, below_al HB.out _⟩
      case measure => simp [intOf]
    · obtain ⟨C, hC⟩ : ∃ C : ByteArray, C = ⟨#[UInt8.ofNat (a / 256)]⟩ := ⟨_, rfl⟩
      have hCs : C.size ≤ 1 := by rw [hC]; exact Nat.le_refl _
      have hcv := fun W => conv1 W ((a : Int) / 256 % 256) (UInt8.ofNat (a / 256)) (c_byte (n := 256) (by simp))
      rw [← hC] at hcv
      have HCe := Lib.hid (show C ++ S = ⟨(bigL 2 a).toArray⟩ by rw [hC, HSe.out, cons_add]; rfl)
      clear hC
      go_wp2
      go_roundw
      case rel => exact ⟨2, by rw [HCe.out], rfl, by omega, below_al HB.out _⟩
      case measure => simp [intOf]
    · obtain ⟨C, hC⟩ : ∃ C : ByteArray, C = ⟨#[UInt8.ofNat (a / 65536)]⟩ := ⟨_, rfl⟩
      have hCs : C.size ≤ 1 := by rw [hC]; exact Nat.le_refl _
      have hcv := fun W => conv1 W ((a : Int) / 65536 % 256) (UInt8.ofNat (a / 65536)) (c_byte (n := 65536) (by simp))
      rw [← hC] at hcv
      have HCe := Lib.hid (show C ++ S = ⟨(bigL 3 a).toArray⟩ by rw [hC, HSe.out, cons_add]; rfl)
      clear hC
      go_wp2
      go_roundw
      case rel => exact ⟨3, by rw [HCe.out], rfl, by omega, below_al HB.out _⟩
      case measure => simp [intOf]
    · obtain ⟨C, hC⟩ : ∃ C : ByteArray, C = ⟨#[UInt8.ofNat (a / 16777216)]⟩ := ⟨_, rfl⟩
      have hCs : C.size ≤ 1 := by rw [hC]; exact Nat.le_refl _
      have hcv := fun W => conv1 W ((a : Int) / 16777216 % 256) (UInt8.ofNat (a / 16777216)) (c_byte (n := 16777216) (by simp))
      rw [← hC] at hcv
      have HCe := Lib.hid (show C ++ S = ⟨(bigL 4 a).toArray⟩ by rw [hC, HSe.out, cons_add]; rfl)
      clear hC
      go_wp2
      go_roundw
      case rel => exact ⟨4, by rw [HCe.out], rfl, by omega, below_al HB.out _⟩
      case measure => simp [intOf]
    · obtain ⟨C, hC⟩ : ∃ C : ByteArray, C = ⟨#[UInt8.ofNat (a / 4294967296)]⟩ := ⟨_, rfl⟩
      have hCs : C.size ≤ 1 := by rw [hC]; exact Nat.le_refl _
      have hcv := fun W => conv1 W ((a : Int) / 4294967296 % 256) (UInt8.ofNat (a / 4294967296)) (c_byte (n := 4294967296) (by simp))
      rw [← hC] at hcv
      have HCe := Lib.hid (show C ++ S = ⟨(bigL 5 a).toArray⟩ by rw [hC, HSe.out, cons_add]; rfl)
      clear hC
      go_wp2
      go_roundw
      case rel => exact ⟨5, by rw [HCe.out], rfl, by omega, below_al HB.out _⟩
      case measure => simp [intOf]
    · obtain ⟨C, hC⟩ : ∃ C : ByteArray, C = ⟨#[UInt8.ofNat (a / 1099511627776)]⟩ := ⟨_, rfl⟩
      have hCs : C.size ≤ 1 := by rw [hC]; exact Nat.le_refl _
      have hcv := fun W => conv1 W ((a : Int) / 1099511627776 % 256) (UInt8.ofNat (a / 1099511627776)) (c_byte (n := 1099511627776) (by simp))
      rw [← hC] at hcv
      have HCe := Lib.hid (show C ++ S = ⟨(bigL 6 a).toArray⟩ by rw [hC, HSe.out, cons_add]; rfl)
      clear hC
      go_wp2
      go_roundw
      case rel => exact ⟨6, by rw [HCe.out], rfl, by omega, below_al HB.out _⟩
      case measure => simp [intOf]
    · obtain ⟨C, hC⟩ : ∃ C : ByteArray, C = ⟨#[UInt8.ofNat (a / 281474976710656)]⟩ := ⟨_, rfl⟩
      have hCs : C.size ≤ 1 := by rw [hC]; exact Nat.le_refl _
      have hcv := fun W => conv1 W ((a : Int) / 281474976710656 % 256) (UInt8.ofNat (a / 281474976710656)) (c_byte (n := 281474976710656) (by simp))
      rw [← hC] at hcv
      have HCe := Lib.hid (show C ++ S = ⟨(bigL 7 a).toArray⟩ by rw [hC, HSe.out, cons_add]; rfl)
      clear hC
      go_wp2
      go_roundw
      case rel => exact ⟨7, by rw [HCe.out], rfl, by omega, below_al HB.out _⟩
      case measure => simp [intOf]
    · obtain ⟨C, hC⟩ : ∃ C : ByteArray, C = ⟨#[UInt8.ofNat (a / 72057594037927936)]⟩ := ⟨_, rfl⟩
      have hCs : C.size ≤ 1 := by rw [hC]; exact Nat.le_refl _
      have hcv := fun W => conv1 W ((a : Int) / 72057594037927936 % 256) (UInt8.ofNat (a / 72057594037927936)) (c_byte (n := 72057594037927936) (by simp))
      rw [← hC] at hcv
      have HCe := Lib.hid (show C ++ S = ⟨(bigL 8 a).toArray⟩ by rw [hC, HSe.out, cons_add]; rfl)
      clear hC
      go_wp2
      go_roundw
      case rel => exact ⟨8, by rw [HCe.out], rfl, by omega, below_al HB.out _⟩
      case measure => simp [intOf]
    · obtain ⟨C, hC⟩ : ∃ C : ByteArray, C = ⟨#[UInt8.ofNat (32 * m + I)]⟩ := ⟨_, rfl⟩
      have hCs : C.size ≤ 1 := by rw [hC]; exact Nat.le_refl _
      have hcv := fun W => conv1 W _ _ (c_nat hm hI)
      rw [← hC] at hcv
      have HCe := Lib.hid (show C ++ S = ⟨(UInt8.ofNat (32 * m + I) :: bigL 8 a).toArray⟩ by rw [hC, HSe.out, cons_add])
      clear hC
      go_wp2_with (go_at_call 24; refine (HI.out _).mono ?_; rintro e w1 ⟨rfl, rfl⟩)
      go_ret2
      exact ⟨by rw [← HCe.out]; rfl, below_al HB.out _⟩
theorem rMake_ans (m : Int) (a : Nat) : AnsH 12 #[.int .i64 m, .int .u64 (a : Int)] (.tuple #[.string (mkB m a), .int .i64 (mkE m)]) := fun w _ => by
  by_cases h : 0 ≤ m ∧ m ≤ 7
  · rw [mkB, mkE, if_pos h, if_pos h, headB, headL]
    obtain ⟨q, rfl⟩ : ∃ q : Nat, m = (q : Int) := ⟨m.toNat, by omega⟩
    rw [Int.toNat_natCast]
    have hq : q < 8 := by omega
    have hI : hinfo a < 32 := by have := hinfo_le a; omega
    by_cases h24 : a < 24
    · rw [show hext a = 0 by rw [hext, if_pos h24], show hinfo a = a by rw [hinfo, if_pos h24]]
      exact rMake_small q a w hq h24
    · have hf := info_of h24
      rcases hext_pos h24 with h1 | h1 | h1 | h1
      · rw [h1] at hf ⊢
        exact rMake1 q a _ w hq hI h1 hf
      · rw [h1] at hf ⊢
        exact rMake2 q a _ w hq hI h1 hf
      · rw [h1] at hf ⊢
        exact rMake4 q a _ w hq hI h1 hf
      · rw [h1] at hf ⊢
        exact rMake8 q a _ w hq hI h1 hf
  · rw [mkB, mkE, if_neg h, if_neg h]
    exact rMake_no m a w (by omega)
end Go.Proofs.YtgaaiiacdeejfaaDoor
