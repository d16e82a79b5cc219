/- The walk of sub. -/
import Derived.Test.YtkdbiilpnijocaaDoorW1
import Derived.Test.YtkdbiilpnijocaaDoorRow
namespace Go.Proofs.YtkdbiilpnijocaaDoor
open Go.RowKit

/-- A call hands back the limbs of the number n. -/
def RetV (n len : Nat) (w : World) (e : Ending) (w' : World) : Prop := ∃ R v, e = .returned v ∧ Lm w' v R ∧ Bd R ∧ Nm R ∧ val R = n ∧ R.length ≤ len ∧ Below w.heap.size w w'

/-- The difference, k limbs of it. -/
structure SubR (X Y S : List Nat) (k c : Nat) : Prop where
  len : S.length = X.length
  le : k ≤ X.length
  rest : ∀ j, k ≤ j → lat S j = lat X j
  bd : Bd S
  c1 : c ≤ 1
  eq : vt (lat X) k + c * 1000000000 ^ k = vt (lat S) k + vt (lat Y) k

theorem vt_set {S : List Nat} {k v : Nat} : vt (lat (S.set k v)) k = vt (lat S) k := vt_congr fun j hj => lat_set_other (by omega)
theorem bd_set {S : List Nat} (h : Bd S) {k v : Nat} (hv : v < 1000000000) : Bd (S.set k v) := by
  intro j
  by_cases e : k = j
  · subst e
    by_cases hk : k < S.length
    · rw [lat_set_same hk]; exact hv
    · rw [lat_ge (by simp; omega)]; omega
  · rw [lat_set_other e]; exact h j

theorem SubR.step {X Y S : List Nat} {k c v c' : Nat} (h : SubR X Y S k c) (hk : k < X.length) (hc' : c' ≤ 1) (hv : v < 1000000000) (e : lat X k + c' * 1000000000 = v + lat Y k + c) : SubR X Y (S.set k v) (k + 1) c' := by
  refine ⟨by rw [List.length_set]; exact h.len, hk, fun j hj => by rw [lat_set_other (by omega)]; exact h.rest j (by omega), bd_set h.bd hv, hc', ?_⟩
  rw [vt, vt, vt, vt_set, lat_set_same (by rw [h.len]; exact hk)]
  have h1 := h.eq
  have h2 : (lat X k + c' * 1000000000) * 1000000000 ^ k = (v + lat Y k + c) * 1000000000 ^ k := by rw [e]
  simp only [Nat.add_mul, Nat.mul_assoc] at h2
  rw [Nat.pow_succ, Nat.mul_comm (1000000000 ^ k) 1000000000]
  omega

theorem SubR.fin {X Y S : List Nat} {c : Nat} (h : SubR X Y S X.length c) (bX : Bd X) (nY : Nm Y) (hle : val Y ≤ val X) : val S = val X - val Y := by
  have hYl : Y.length ≤ X.length := by
    by_cases e : Y = []
    · subst e; simp
    · have h1 := val_ge nY e
      have h2 := val_lt bX
      have h3 : 1000000000 ^ (Y.length - 1) < 1000000000 ^ X.length := by omega
      have := (Nat.pow_lt_pow_iff_right (by omega : 1 < 1000000000)).1 h3
      omega
  have h1 := h.eq
  rw [val_eq hYl, show vt (lat S) X.length = val S from by rw [val, h.len], show vt (lat X) X.length = val X from rfl] at h1
  have h2 := val_lt h.bd
  rw [h.len] at h2
  have := h.c1
  rcases Nat.le_one_iff_eq_zero_or_eq_one.1 h.c1 with e | e <;> subst e <;> omega

theorem sub_fin {X Y S : List Nat} {c : Nat} {w w1 w2 : World} {e : Ending} (h : SubR X Y S X.length c) (bX : Bd X) (nY : Nm Y) (hle : val Y ≤ val X) (hb : Below w.heap.size w w1) (hr : RetLm (trimL S) w1 e w2) :
    RetV (val X - val Y) X.length w e w2 := by
  obtain ⟨v, rfl, hl, hb2⟩ := hr
  exact ⟨_, v, rfl, hl, bd_trim h.bd, nm_trim _, by rw [val_trim, h.fin bX nY hle], by have := length_trim S; have := h.len; omega, hb.trans (hb2.mono hb.size)⟩

set_option maxRecDepth 100000 in
set_option maxHeartbeats 1000000 in
theorem sub_calls (vx vy : Value) (X Y : List Nat) (w : World) (hX : X.length ≤ 1000) (hY : Y.length ≤ 1000) (hx : Lm w vx X) (hy : Lm w vy Y) (bX : Bd X) (bY : Bd Y) (nY : Nm Y) (hle : val Y ≤ val X) :
    Calls Tryd.prog 42 #[vx, vy] w (RetV (val X - val Y) X.length w) := by
  obtain ⟨a, ca, rfl⟩ := hx.shape
  have HX := Lib.hid hx
  have HY := Lib.hid hy
  have HBX := Lib.hid bX
  have HBY := Lib.hid bY
  have HNY := Lib.hid nY
  have HLE := Lib.hid hle
  clear hx hy bX bY nY hle
  go_enter Tryd.func42, Tryd.ntmps42
  go_wp2_with (first
    | (at_make; refine make_limbs rfl (.tmp 10) (.tmp 10) rfl _ X.length rfl rfl rfl (by omega) ?_; intro w1 hR1 hB1 hs1)
    | ((refine copy_limbs rfl (.tmp 12) (.tmp 13) rfl w.heap.size X.length (List.replicate X.length 0) X (.slice a X.length ca) X.length (by simp) rfl rfl (HX.out.below hB1) hR1.out (by simp) w.heap.size w hB1 (Nat.le_refl _) ?_); intro w2 hR2 hB2))
  go_loopw [6, 7, 8, 17] (fun c _ _ i wr => ∃ (S : List Nat) (k q : Nat), c = .int .u32 q ∧ i = .int .i64 k ∧ SubR X Y S k q ∧ Row wr w.heap.size S ∧ Below w.heap.size w wr)
    (fun _ _ _ i _ => X.length - (intOf i).toNat)
  case atStart =>
    have h := hR2.out
    simp only [List.drop_replicate, Nat.sub_self, List.replicate_zero, List.append_nil] at h
    exact ⟨X, 0, 0, rfl, rfl, ⟨rfl, Nat.zero_le _, fun _ _ => rfl, HBX.out, by omega, by simp [vt]⟩, h, hB2⟩
  case round =>
    obtain ⟨S, k, q, rfl, rfl, hS, hrow, hnx⟩ := hrel
    have HS := Lib.hid hS
    have HR := Lib.hid hrow
    have hkl := hS.le
    have hq := hS.c1
    have hf := hrow.frozen k
    clear hS hR1 hR2
    by_cases hlt : k < X.length
    · have hc := hrow.cell (j := k) (by rw [HS.out.len]; exact hlt)
      rw [HS.out.rest k (Nat.le_refl _)] at hc
      clear hrow
      have hy1 := HBY.out k
      have hx1 := HBX.out k
      have hlY := limbAt_calls vy Y wr k hY (HY.out.below hnx)
      have HLY := Lib.hid hlY
      clear hlY
      by_cases hl2 : lat X k < lat Y k + q
      · go_wp2_with (go_at_call 60; refine (HLY.out).mono ?_; rintro e w' ⟨rfl, rfl⟩)
        go_roundw
        case rel =>
          refine ⟨_, k + 1, 1, rfl, by go_num, HS.out.step (v := lat X k + 1000000000 - (lat Y k + q)) (c' := 1) hlt (by omega) (by omega) (by omega), ?_, (hnx.setCell (p := ⟨w.heap.size, k, none⟩) (Nat.le_refl _) _).setCell (p := ⟨w.heap.size, k, none⟩) (Nat.le_refl _) _⟩
          have := (HR.out.setI k (x := (lat X k : Int) + 1000000000) (lat X k + 1000000000) (by omega)).setI k (x := ((lat X k : Int) + 1000000000 - ((lat Y k : Int) + (q : Int)))) (lat X k + 1000000000 - (lat Y k + q)) (by omega)
          rw [List.set_set] at this
          exact this
        case measure => simp [intOf]; omega
      · go_wp2_with (go_at_call 60; refine (HLY.out).mono ?_; rintro e w' ⟨rfl, rfl⟩)
        go_roundw
        case rel =>
          exact ⟨_, k + 1, 0, rfl, by go_num, HS.out.step (v := lat X k - (lat Y k + q)) (c' := 0) hlt (by omega) (by omega) (by omega), HR.out.setI k _ (by omega), hnx.setCell (p := ⟨w.heap.size, k, none⟩) (Nat.le_refl _) _⟩
        case measure => simp [intOf]; omega
    · obtain rfl : k = X.length := by omega
      go_wp2_with (go_at_call 61; refine (trim_calls _ S wr (by rw [HS.out.len]; exact hX) (by have := HR.out.lm (cap := X.length) (by rw [HS.out.len]; exact Nat.le_refl _); rw [HS.out.len] at this; exact this)).mono ?_; rintro e w3 ⟨v, rfl, hl3, hb3⟩)
      go_ret
      exact sub_fin HS.out HBX.out HNY.out HLE.out hnx ⟨v, rfl, hl3, hb3⟩
end Go.Proofs.YtkdbiilpnijocaaDoor
