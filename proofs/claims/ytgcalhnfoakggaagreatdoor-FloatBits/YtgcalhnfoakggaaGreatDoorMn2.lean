/- The walk of sub. The walk of add. -/
import Derived.Test.YtgcalhnfoakggaaGreatDoorMn1
import Derived.Deep.QuietTactic
import Derived.BigQuiet

namespace Go.Proofs.YtgcalhnfoakggaaGreatDoor
open Go.RowKit

/-- A call hands back the limbs of the number n. -/
def RetV (n len : Nat) (w : World) (e : Ending) (w' : World) : Prop := ∃ R v, e = .returned v ∧ Lm w' v R ∧ Bd R ∧ Nm R ∧ val R = n ∧ R.length ≤ len ∧ Below w.heap.size w w'

/-- The difference, k limbs of it. -/
structure SubR (X Y S : List Nat) (k c : Nat) : Prop where
  len : S.length = X.length
  le : k ≤ X.length
  rest : ∀ j, k ≤ j → lat S j = lat X j
  bd : Bd S
  c1 : c ≤ 1
  eq : vt (lat X) k + c * 1000000000 ^ k = vt (lat S) k + vt (lat Y) k

theorem vt_set {S : List Nat} {k v : Nat} : vt (lat (S.set k v)) k = vt (lat S) k := vt_congr fun j hj => lat_set_other (by omega)
theorem bd_set {S : List Nat} (h : Bd S) {k v : Nat} (hv : v < 1000000000) : Bd (S.set k v) := by
  intro j
  by_cases e : k = j
  · subst e
    by_cases hk : k < S.length
    · rw [lat_set_same hk]; exact hv
    · rw [lat_ge (by simp; omega)]; omega
  · rw [lat_set_other e]; exact h j

theorem SubR.step {X Y S : List Nat} {k c v c' : Nat} (h : SubR X Y S k c) (hk : k < X.length) (hc' : c' ≤ 1) (hv : v < 1000000000) (e : lat X k + c' * 1000000000 = v + lat Y k + c) : SubR X Y (S.set k v) (k + 1) c' := by
  refine ⟨by rw [List.length_set]; exact h.len, hk, fun j hj => by rw [lat_set_other (by omega)]; exact h.rest j (by omega), bd_set h.bd hv, hc', ?_⟩
  rw [vt, vt, vt, vt_set, lat_set_same (by rw [h.len]; exact hk)]
  have h1 := h.eq
  have h2 : (lat X k + c' * 1000000000) * 1000000000 ^ k = (v + lat Y k + c) * 1000000000 ^ k := by rw [e]
  simp only [Nat.add_mul, Nat.mul_assoc] at h2
  rw [Nat.pow_succ, Nat.mul_comm (1000000000 ^ k) 1000000000]
  omega

theorem SubR.fin {X Y S : List Nat} {c : Nat} (h : SubR X Y S X.length c) (bX : Bd X) (nY : Nm Y) (hle : val Y ≤ val X) : val S = val X - val Y := by
  have hYl : Y.length ≤ X.length := by
    by_cases e : Y = []
    · subst e; simp
    · have h1 := val_ge nY e
      have h2 := val_lt bX
      have h3 : 1000000000 ^ (Y.length - 1) < 1000000000 ^ X.length := by omega
      have := (Nat.pow_lt_pow_iff_right (by omega : 1 < 1000000000)).1 h3
      omega
  have h1 := h.eq
  rw [val_eq hYl, show vt (lat S) X.length = val S from by rw [val, h.len], show vt (lat X) X.length = val X from rfl] at h1
  have h2 := val_lt h.bd
  rw [h.len] at h2
  have := h.c1
  rcases Nat.le_one_iff_eq_zero_or_eq_one.1 h.c1 with e | e <;> subst e <;> omega

theorem sub_fin {X Y S : List Nat} {c : Nat} {w w1 w2 : World} {e : Ending} (h : SubR X Y S X.length c) (bX : Bd X) (nY : Nm Y) (hle : val Y ≤ val X) (hb : Below w.heap.size w w1) (hr : RetLm (trimL S) w1 e w2) :
    RetV (val X - val Y) X.length w e w2 := by
  obtain ⟨v, rfl, hl, hb2⟩ := hr
  exact ⟨_, v, rfl, hl, bd_trim h.bd, nm_trim _, by rw [val_trim, h.fin bX nY hle], by have := length_trim S; have := h.len; omega, hb.trans (hb2.mono hb.size)⟩

end Go.Proofs.YtgcalhnfoakggaaGreatDoor

namespace Go.Proofs.YtgcalhnfoakggaaGreatDoor
open Go.RowKit

/-- The sum, k limbs of it, in a row of n. -/
structure AddR (n : Nat) (X Y S : List Nat) (k c : Nat) : Prop where
  len : S.length = n
  le : k ≤ n
  rest : ∀ j, k ≤ j → lat S j = lat X j
  bd : Bd S
  c1 : c ≤ 1
  eq : vt (lat S) k + c * 1000000000 ^ k = vt (lat X) k + vt (lat Y) k

theorem AddR.step {n : Nat} {X Y S : List Nat} {k c v c' : Nat} (h : AddR n X Y S k c) (hk : k < n) (hc' : c' ≤ 1) (hv : v < 1000000000) (e : v + c' * 1000000000 = lat X k + lat Y k + c) : AddR n X Y (S.set k v) (k + 1) c' := by
  refine ⟨by rw [List.length_set]; exact h.len, hk, fun j hj => by rw [lat_set_other (by omega)]; exact h.rest j (by omega), bd_set h.bd hv, hc', ?_⟩
  rw [vt, vt, vt, vt_set, lat_set_same (by rw [h.len]; exact hk)]
  have h1 := h.eq
  have h2 : (v + c' * 1000000000) * 1000000000 ^ k = (lat X k + lat Y k + c) * 1000000000 ^ k := by rw [e]
  simp only [Nat.add_mul, Nat.mul_assoc] at h2
  rw [Nat.pow_succ, Nat.mul_comm (1000000000 ^ k) 1000000000]
  omega

theorem AddR.fin {n : Nat} {X Y S : List Nat} {c : Nat} (h : AddR n X Y S n c) (hX : X.length < n) (hY : Y.length < n) (bX : Bd X) (bY : Bd Y) : val S = val X + val Y := by
  have h1 := h.eq
  rw [val_eq (L := X) (by omega), val_eq (L := Y) (by omega), show vt (lat S) n = val S from by rw [val, h.len]] at h1
  have h2 := val_lt bX
  have h3 := val_lt bY
  have h4 : 1000000000 ^ X.length ≤ 1000000000 ^ (n - 1) := Nat.pow_le_pow_right (by omega) (by omega)
  have h5 : 1000000000 ^ Y.length ≤ 1000000000 ^ (n - 1) := Nat.pow_le_pow_right (by omega) (by omega)
  have h6 : 1000000000 ^ n = 1000000000 * 1000000000 ^ (n - 1) := by rw [show n = n - 1 + 1 from by omega, Nat.pow_succ, Nat.mul_comm, show n - 1 + 1 - 1 = n - 1 from by omega]
  rcases Nat.le_one_iff_eq_zero_or_eq_one.1 h.c1 with e | e <;> subst e <;> omega

theorem add_fin {n : Nat} {X Y S : List Nat} {c : Nat} {w w1 w2 : World} {e : Ending} (h : AddR n X Y S n c) (hX : X.length < n) (hY : Y.length < n) (bX : Bd X) (bY : Bd Y) (hb : Below w.heap.size w w1) (hr : RetLm (trimL S) w1 e w2) :
    RetV (val X + val Y) n w e w2 := by
  obtain ⟨v, rfl, hl, hb2⟩ := hr
  exact ⟨_, v, rfl, hl, bd_trim h.bd, nm_trim _, by rw [val_trim, h.fin hX hY bX bY], by have := length_trim S; have := h.len; omega, hb.trans (hb2.mono hb.size)⟩

theorem lat_app_rep (X : List Nat) (m j : Nat) : lat (X ++ List.replicate m 0) j = lat X j := by
  simp only [lat]
  by_cases h : j < X.length
  · rw [List.getElem?_append_left h]
  · rw [List.getElem?_append_right (by omega), List.getElem?_eq_none (l := X) (by omega)]
    by_cases h2 : j - X.length < m
    · simp [h2]
    · rw [List.getElem?_eq_none (by simp; omega)]

end Go.Proofs.YtgcalhnfoakggaaGreatDoor
