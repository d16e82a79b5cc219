/- The walks of the document's own number and Decode. -/
import Derived.Test.YtfmhpeeecejpbaaRc
namespace Go.Proofs.Ytfmhpeeecejpbaa
open Go.RowKit

set_option maxRecDepth 100000 in
set_option maxHeartbeats 1000000 in
theorem rCode_no (s : ByteArray) (w : World) (hs : 400 < s.size) : Calls Try.prog 12 #[.string s] w fun e w' => e = .returned (.tuple #[.string noB, .int .i64 30]) ∧ Below w.heap.size w w' := by
  have hd : decide ((400 : Int) < (s.size : Int)) = true := by simp; omega
  go_enter Try.func12, Try.ntmps12
  go_wp2
  go_ret2
  exact ⟨rfl, Below.refl _ _⟩

/-- A letter's number as Go tells it. -/
def numI (c : Nat) : Int := if numb c < 64 then (numb c : Int) else -1
theorem numI_yes {c : Nat} (h : numb c < 64) : numI c = (numb c : Int) := if_pos h
theorem numI_no {c : Nat} (h : ¬ numb c < 64) : numI c = -1 := if_neg h

set_option maxRecDepth 100000 in
set_option maxHeartbeats 1000000 in
theorem number_calls (c : Nat) (w : World) : Calls Try.prog 24 #[.int .u8 (c : Int)] w fun e w' => e = .returned (.int .i64 (numI c)) ∧ w = w' := by
  go_enter Try.func24, Try.ntmps24
  go_wp2_with (go_at_call 22; refine (letters_calls _).mono ?_; rintro e w' ⟨rfl, rfl⟩)
  obtain ⟨L, hL⟩ : ∃ L, L = lettersB := ⟨_, rfl⟩
  rw [← hL]
  have hLs : L.size = 64 := by rw [hL]; rfl
  have HL := Lib.hid hL
  clear hL
  go_loop [4] (fun i => ∃ k : Nat, i = .int .i64 k ∧ k ≤ 64 ∧ Hid (∀ j, j < k → lettN j ≠ c)) (fun i => 64 - (intOf i).toNat)
  case atStart => exact ⟨0, rfl, by omega, Lib.hid (fun j hj => by omega)⟩
  case round =>
    obtain ⟨k, rfl, hk, HJ⟩ := hrel
    by_cases hlt : k < 64
    · have l0 : k < L.size := by omega
      have v0 : (L[k]'l0).toNat = lettN k := letters_at HL.out l0 hlt
      have i0 : (k : Int) < (L.size : Int) := by omega
      clear hLs
      by_cases he : lettN k = c
      · have hb : ((lettN k : Int) == (c : Int)) = true := by rw [he]; simp
        have HE : Hid (numI c = (k : Int)) := Lib.hid (by rw [← he, numI_yes (by rw [numb_lett hlt]; exact hlt), numb_lett hlt])
        clear he
        go_wp2
        go_ret
        exact ⟨by rw [HE.out]; rfl, rfl⟩
      · have hb : ((lettN k : Int) == (c : Int)) = false := by simp; omega
        have HJ2 : Hid (∀ j, j < k + 1 → lettN j ≠ c) := Lib.hid (fun j hj => by
          rcases Nat.lt_or_ge j k with h | h
          · exact HJ.out j h
          · obtain rfl : j = k := by omega
            exact he)
        clear he
        go_wp2
        go_round
        case rel => exact ⟨k + 1, by go_num, by omega, HJ2⟩
        case measure => simp [intOf]; omega
    · have HE : Hid (numI c = -1) := Lib.hid (numI_no (fun h => HJ.out (numb c) (by omega) (lett_numb h)))
      go_wp2
      go_ret
      exact ⟨by rw [HE.out]; rfl, rfl⟩
end Go.Proofs.Ytfmhpeeecejpbaa
