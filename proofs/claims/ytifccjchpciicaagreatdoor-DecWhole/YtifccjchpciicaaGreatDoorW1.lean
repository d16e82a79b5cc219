/- The walks of trim, limbAt and of cmp.Compare. -/
import Derived.Test.YtifccjchpciicaaGreatDoorLm
namespace Go.Proofs.YtifccjchpciicaaGreatDoor
open Go.RowKit

theorem trim_end {L : List Nat} {w : World} {b off k : Nat} (hk : k ≤ L.length) (hb : b < w.heap.size)
    (hc : ∀ j, j < L.length → w.cell? ⟨b, off + j, none⟩ = some (.int .u32 (lat L j : Nat))) (h : trimL L = L.take k) (c : Nat) (hc' : k ≤ c) :
    RetLm (trimL L) w (.returned (.slice (some ⟨b, off, none⟩) k c)) w := by
  refine ⟨_, rfl, .inr ⟨b, off, c, ?_, ?_, hb, ?_⟩, Below.refl _ _⟩
  · rw [h, List.length_take, Nat.min_eq_left hk]
  · rw [h, List.length_take, Nat.min_eq_left hk]; exact hc'
  · intro j hj
    rw [h, List.length_take, Nat.min_eq_left hk] at hj
    rw [h, show lat (L.take k) j = lat L j from by simp [lat, List.getElem?_take_of_lt hj]]
    exact hc j (by omega)

set_option maxHeartbeats 400000 in
theorem trim_some (L : List Nat) (w : World) (b off cap : Nat) (hl : L.length ≤ 1000) (hcap : L.length ≤ cap) (hb : b < w.heap.size)
    (hc : ∀ j, j < L.length → w.cell? ⟨b, off + j, none⟩ = some (.int .u32 (lat L j : Nat))) :
    Calls Tryz.prog 76 #[.slice (some ⟨b, off, none⟩) L.length cap] w (RetLm (trimL L) w) := by
  have HC := Lib.hid hc
  clear hc
  go_enter Tryz.func76, Tryz.ntmps76
  go_wp2
  go_loop [3] (fun n => ∃ k : Nat, k ≤ L.length ∧ n = .int .i64 k ∧ trimL (L.take k) = trimL L) (fun n => (intOf n).toNat)
  case atStart => exact ⟨L.length, Nat.le_refl _, rfl, by simp⟩
  case round =>
    obtain ⟨k, hk, rfl, ht⟩ := hrel
    have HT := Lib.hid ht
    clear ht
    rcases k with _ | k
    · go_wp2
      go_ret
      exact trim_end (Nat.zero_le _) hb HC.out (by rw [← HT.out]; rfl) 0 (Nat.le_refl _)
    · have hc1 := HC.out k (by omega)
      by_cases hz : lat L k = 0
      · have HZ := Lib.hid hz
        rw [hz] at hc1
        clear hz
        go_wp2
        go_round
        case rel => exact ⟨k, by omega, by go_num, by rw [← HT.out, trimL_take_zero L k (by omega) HZ.out]⟩
        case measure => simp [intOf]
      · have HZ := Lib.hid hz
        have hz1 : ((lat L k : Nat) == (0 : Int)) = false := by simpa using hz
        clear hz
        go_wp2
        go_ret
        exact trim_end hk hb HC.out (by rw [← HT.out]; exact trimL_take_pos L k (by omega) HZ.out) (k + 1) (Nat.le_refl _)

set_option maxHeartbeats 400000 in
theorem trim_nil (w : World) : Calls Tryz.prog 76 #[.slice none 0 0] w (RetLm [] w) := by
  go_enter Tryz.func76, Tryz.ntmps76
  go_wp2
  go_loop [3] (fun n => n = .int .i64 0) (fun n => (intOf n).toNat)
  case atStart => rfl
  case round =>
    subst hrel
    go_wp2
    go_ret
    exact ⟨_, rfl, .inl ⟨rfl, rfl⟩, Below.refl _ _⟩

theorem trim_calls (v : Value) (L : List Nat) (w : World) (hl : L.length ≤ 1000) (h : Lm w v L) : Calls Tryz.prog 76 #[v] w (RetLm (trimL L) w) := by
  rcases h with ⟨rfl, rfl⟩ | ⟨b, off, cap, rfl, hcap, hb, hc⟩
  · exact trim_nil w
  · exact trim_some L w b off cap hl hcap hb hc

end Go.Proofs.YtifccjchpciicaaGreatDoor
