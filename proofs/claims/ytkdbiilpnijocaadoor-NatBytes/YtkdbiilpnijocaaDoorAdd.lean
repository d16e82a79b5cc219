/- The walk of add. -/
import Derived.Test.YtkdbiilpnijocaaDoorSub
import Derived.Deep.QuietTactic
import Derived.BigQuiet
namespace Go.Proofs.YtkdbiilpnijocaaDoor
open Go.RowKit

/-- The sum, k limbs of it, in a row of n. -/
structure AddR (n : Nat) (X Y S : List Nat) (k c : Nat) : Prop where
  len : S.length = n
  le : k ≤ n
  rest : ∀ j, k ≤ j → lat S j = lat X j
  bd : Bd S
  c1 : c ≤ 1
  eq : vt (lat S) k + c * 1000000000 ^ k = vt (lat X) k + vt (lat Y) k

theorem AddR.step {n : Nat} {X Y S : List Nat} {k c v c' : Nat} (h : AddR n X Y S k c) (hk : k < n) (hc' : c' ≤ 1) (hv : v < 1000000000) (e : v + c' * 1000000000 = lat X k + lat Y k + c) : AddR n X Y (S.set k v) (k + 1) c' := by
  refine ⟨by rw [List.length_set]; exact h.len, hk, fun j hj => by rw [lat_set_other (by omega)]; exact h.rest j (by omega), bd_set h.bd hv, hc', ?_⟩
  rw [vt, vt, vt, vt_set, lat_set_same (by rw [h.len]; exact hk)]
  have h1 := h.eq
  have h2 : (v + c' * 1000000000) * 1000000000 ^ k = (lat X k + lat Y k + c) * 1000000000 ^ k := by rw [e]
  simp only [Nat.add_mul, Nat.mul_assoc] at h2
  rw [Nat.pow_succ, Nat.mul_comm (1000000000 ^ k) 1000000000]
  omega

theorem AddR.fin {n : Nat} {X Y S : List Nat} {c : Nat} (h : AddR n X Y S n c) (hX : X.length < n) (hY : Y.length < n) (bX : Bd X) (bY : Bd Y) : val S = val X + val Y := by
  have h1 := h.eq
  rw [val_eq (L := X) (by omega), val_eq (L := Y) (by omega), show vt (lat S) n = val S from by rw [val, h.len]] at h1
  have h2 := val_lt bX
  have h3 := val_lt bY
  have h4 : 1000000000 ^ X.length ≤ 1000000000 ^ (n - 1) := Nat.pow_le_pow_right (by omega) (by omega)
  have h5 : 1000000000 ^ Y.length ≤ 1000000000 ^ (n - 1) := Nat.pow_le_pow_right (by omega) (by omega)
  have h6 : 1000000000 ^ n = 1000000000 * 1000000000 ^ (n - 1) := by rw [show n = n - 1 + 1 from by omega, Nat.pow_succ, Nat.mul_comm, show n - 1 + 1 - 1 = n - 1 from by omega]
  rcases Nat.le_one_iff_eq_zero_or_eq_one.1 h.c1 with e | e <;> subst e <;> omega

theorem add_fin {n : Nat} {X Y S : List Nat} {c : Nat} {w w1 w2 : World} {e : Ending} (h : AddR n X Y S n c) (hX : X.length < n) (hY : Y.length < n) (bX : Bd X) (bY : Bd Y) (hb : Below w.heap.size w w1) (hr : RetLm (trimL S) w1 e w2) :
    RetV (val X + val Y) n w e w2 := by
  obtain ⟨v, rfl, hl, hb2⟩ := hr
  exact ⟨_, v, rfl, hl, bd_trim h.bd, nm_trim _, by rw [val_trim, h.fin hX hY bX bY], by have := length_trim S; have := h.len; omega, hb.trans (hb2.mono hb.size)⟩

theorem lat_app_rep (X : List Nat) (m j : Nat) : lat (X ++ List.replicate m 0) j = lat X j := by
  simp only [lat]
  by_cases h : j < X.length
  · rw [List.getElem?_append_left h]
  · rw [List.getElem?_append_right (by omega), List.getElem?_eq_none (l := X) (by omega)]
    by_cases h2 : j - X.length < m
    · simp [h2]
    · rw [List.getElem?_eq_none (by simp; omega)]

set_option maxRecDepth 100000 in
set_option maxHeartbeats 1000000 in
theorem add_calls (vx vy : Value) (X Y : List Nat) (w : World) (hX : X.length ≤ 900) (hY : Y.length ≤ 900) (hx : Lm w vx X) (hy : Lm w vy Y) (bX : Bd X) (bY : Bd Y) :
    Calls Tryd.prog 39 #[vx, vy] w (RetV (val X + val Y) (max X.length Y.length + 1) w) := by
  obtain ⟨a, ca, rfl⟩ := hx.shape
  obtain ⟨a2, ca2, e2⟩ := hy.shape
  have HX := Lib.hid hx
  have HY := Lib.hid hy
  have HBX := Lib.hid bX
  have HBY := Lib.hid bY
  subst e2
  obtain ⟨n, hn⟩ : ∃ n, n = max X.length Y.length + 1 := ⟨_, rfl⟩
  have hn1 : X.length < n := by omega
  have hn2 : Y.length < n := by omega
  have hn3 : n ≤ 901 := by omega
  rw [← hn]
  have HN := Lib.hid hn
  clear hx hy bX bY hn
  by_cases hxy : X.length < Y.length
  all_goals
    go_enter Tryd.func39, Tryd.ntmps39
    go_wp2_with (first
      | (at_make; refine make_limbs rfl (.tmp 14) (.tmp 14) rfl _ n rfl rfl (by have := HN.out; omega) (by omega) ?_; intro w1 hR1 hB1 hs1)
      | ((refine copy_limbs rfl (.tmp 16) (.tmp 17) rfl w.heap.size n (List.replicate n 0) X (.slice a X.length ca) n (by simp) rfl rfl (HX.out.below hB1) hR1.out (by simp; omega) w.heap.size w hB1 (Nat.le_refl _) ?_); intro w2 hR2 hB2))
    go_loopw [6, 7, 8, 21] (fun c _ _ i wr => ∃ (S : List Nat) (k q : Nat), c = .int .u32 q ∧ i = .int .i64 k ∧ AddR n X Y S k q ∧ Row wr w.heap.size S ∧ Below w.heap.size w wr)
      (fun _ _ _ i _ => n - (intOf i).toNat)
    case atStart =>
      have h := hR2.out
      rw [List.drop_replicate] at h
      exact ⟨_, 0, 0, rfl, rfl, ⟨by simp; omega, Nat.zero_le _, fun j _ => lat_app_rep _ _ j, fun j => by rw [lat_app_rep]; exact HBX.out j, by omega, by simp [vt]⟩, h, hB2⟩
    case round =>
      obtain ⟨S, k, q, rfl, rfl, hS, hrow, hnx⟩ := hrel
      have HS := Lib.hid hS
      have HR := Lib.hid hrow
      have hkl := hS.le
      have hq := hS.c1
      have hf := hrow.frozen k
      clear hS hR1 hR2
      by_cases hlt : k < n
      · have hc := hrow.cell (j := k) (by rw [HS.out.len]; exact hlt)
        rw [HS.out.rest k (Nat.le_refl _)] at hc
        clear hrow
        have hy1 := HBY.out k
        have hx1 := HBX.out k
        have HLY := Lib.hid (fun m => limbAt_calls (.slice a2 Y.length ca2) Y (wr.drewN m) k (by omega) ((HY.out.below hnx).below (below_drewN (Below.refl _ _) m)))
        go_wp2_with fail
        go_quiet ((go_at_call 60; exact Calls.quiet_of_same ((HLY.out _).mono fun e w' ⟨he, hw⟩ => ⟨he, hw.symm⟩)))
        have HR' := Lib.hid (show Row (wr.drewN nq) w.heap.size S from HR.out)
        have hB' : Below w.heap.size w (wr.drewN nq) := below_drewN hnx nq
        have hc' : (wr.drewN nq).cell? ⟨w.heap.size, k, none⟩ = some (.int .u32 (lat X k : Nat)) := hc
        have hf' : (wr.drewN nq).frozen? ⟨w.heap.size, k, none⟩ = false := hf
        clear hc hf HR HLY hnx
        generalize wr.drewN nq = wq at HR' hB' hc' hf' ⊢
        go_wp2
        go_roundw
        case rel =>
          exact ⟨_, k + 1, (lat X k + lat Y k + q) / 1000000000, by go_num, by go_num, HS.out.step (v := (lat X k + lat Y k + q) % 1000000000) hlt (by omega) (by omega) (by omega), HR'.out.setI k _ (by omega), hB'.setCell (p := ⟨w.heap.size, k, none⟩) (Nat.le_refl _) _⟩
        case measure => simp [intOf]; omega
      · obtain rfl : k = n := by omega
        go_wp2_with (go_at_call 61; refine (trim_calls _ S wr (by rw [HS.out.len]; omega) (by have := HR.out.lm (cap := k) (by rw [HS.out.len]; exact Nat.le_refl _); rw [HS.out.len] at this; exact this)).mono ?_; rintro e w3 ⟨v, rfl, hl3, hb3⟩)
        go_ret
        exact add_fin HS.out hn1 hn2 HBX.out HBY.out hnx ⟨v, rfl, hl3, hb3⟩
end Go.Proofs.YtkdbiilpnijocaaDoor
