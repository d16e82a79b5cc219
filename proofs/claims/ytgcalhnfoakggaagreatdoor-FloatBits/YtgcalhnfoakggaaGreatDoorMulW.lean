/- The walk of mul. -/
import Derived.Test.YtgcalhnfoakggaaGreatDoorMn2
import Derived.Test.YtgcalhnfoakggaaGreatDoorDivM
import Derived.Scope
namespace Go.Proofs.YtgcalhnfoakggaaGreatDoor
open Go.RowKit

theorem noGoto_ret {Q : Exit → Act → World → Prop} {a : Act} {w : World} (h : Q .ret a w) : Exit.noGoto Q .ret a w := h

theorem vt_put {P : List Nat} {i v : Nat} (hi : i < P.length) : ∀ {n : Nat}, i < n → vt (lat (P.set i v)) n + lat P i * 1000000000 ^ i = vt (lat P) n + v * 1000000000 ^ i := by
  intro n
  induction n with
  | zero => intro h; omega
  | succ n ih =>
    intro h
    rw [vt, vt]
    by_cases e : i = n
    · subst e
      rw [lat_set_same hi, vt_congr (f := lat (P.set i v)) (g := lat P) (fun j hj => lat_set_other (by omega))]
      omega
    · have := ih (by omega)
      rw [lat_set_other e]
      omega

theorem val_set {P : List Nat} {i v : Nat} (hi : i < P.length) : val (P.set i v) + lat P i * 1000000000 ^ i = val P + v * 1000000000 ^ i := by
  rw [val, val, List.length_set]
  exact vt_put hi hi

/-- The product, k rows of it. -/
structure MulO (X Y P : List Nat) (k : Nat) : Prop where
  len : P.length = X.length + Y.length
  le : k ≤ X.length
  bd : Bd P
  rest : ∀ j, k + Y.length ≤ j → lat P j = 0
  eq : val P = vt (lat X) k * val Y

/-- Row k, j limbs of it. -/
structure MulN (X Y P : List Nat) (k j c : Nat) : Prop where
  len : P.length = X.length + Y.length
  le : j ≤ Y.length
  bd : Bd P
  rest : ∀ t, k + Y.length ≤ t → lat P t = 0
  c1 : c < 1000000000
  eq : val P + c * 1000000000 ^ (k + j) = vt (lat X) k * val Y + lat X k * vt (lat Y) j * 1000000000 ^ k

theorem MulO.inner {X Y P : List Nat} {k : Nat} (h : MulO X Y P k) : MulN X Y P k 0 0 :=
  ⟨h.len, Nat.zero_le _, h.bd, h.rest, by omega, by rw [h.eq, vt]; simp⟩

theorem total_le {x y p c : Nat} (hx : x < 1000000000) (hy : y < 1000000000) (hp : p < 1000000000) (hc : c < 1000000000) : x * y + p + c < 1000000000000000000 := by
  have : x * y ≤ 999999999 * 999999999 := Nat.mul_le_mul (by omega) (by omega)
  omega

theorem MulN.step {X Y P : List Nat} {k j c : Nat} (h : MulN X Y P k j c) (hk : k < X.length) (hj : j < Y.length) (bX : Bd X) (bY : Bd Y) :
    MulN X Y (P.set (k + j) ((lat X k * lat Y j + lat P (k + j) + c) % 1000000000)) k (j + 1) ((lat X k * lat Y j + lat P (k + j) + c) / 1000000000) := by
  have hlen := h.len
  have ht := total_le (bX k) (bY j) (h.bd (k + j)) h.c1
  have hs := val_set (P := P) (i := k + j) (v := (lat X k * lat Y j + lat P (k + j) + c) % 1000000000) (by omega)
  have he := h.eq
  refine ⟨by rw [List.length_set]; exact hlen, hj, bd_set' h.bd (by omega), fun t ht => by rw [lat_set_other (by omega)]; exact h.rest t ht, by omega, ?_⟩
  rw [vt, Nat.mul_add, Nat.add_mul, show k + (j + 1) = k + j + 1 from rfl, Nat.pow_succ, show lat X k * (lat Y j * 1000000000 ^ j) * 1000000000 ^ k = lat X k * lat Y j * 1000000000 ^ (k + j) from by rw [Nat.pow_add, ← Nat.mul_assoc, Nat.mul_assoc, Nat.mul_comm (1000000000 ^ j)]]
  generalize 1000000000 ^ (k + j) = E at hs he ⊢
  have hT : lat X k * lat Y j * E + lat P (k + j) * E + c * E = (lat X k * lat Y j + lat P (k + j) + c) % 1000000000 * E + (lat X k * lat Y j + lat P (k + j) + c) / 1000000000 * (E * 1000000000) := by
    rw [← Nat.add_mul, ← Nat.add_mul]
    generalize lat X k * lat Y j + lat P (k + j) + c = t
    rw [Nat.mul_comm E, ← Nat.mul_assoc, ← Nat.add_mul, Nat.mul_comm (t / 1000000000), Nat.mod_add_div]
  generalize (lat X k * lat Y j + lat P (k + j) + c) % 1000000000 * E = a1 at hs hT ⊢
  generalize (lat X k * lat Y j + lat P (k + j) + c) / 1000000000 * (E * 1000000000) = a2 at hT ⊢
  generalize lat X k * lat Y j * E = a3 at hT ⊢
  generalize lat P (k + j) * E = a4 at hs hT
  generalize c * E = a5 at he hT
  omega

theorem MulN.outer {X Y P : List Nat} {k c : Nat} (h : MulN X Y P k Y.length c) (hk : k < X.length) : MulO X Y (P.set (k + Y.length) c) (k + 1) := by
  have hlen := h.len
  have hs := val_set (P := P) (i := k + Y.length) (v := c) (by omega)
  have he := h.eq
  refine ⟨by rw [List.length_set]; exact hlen, hk, bd_set' h.bd h.c1, fun t ht => by rw [lat_set_other (by omega)]; exact h.rest t (by omega), ?_⟩
  rw [h.rest _ (Nat.le_refl _), Nat.zero_mul, Nat.add_zero] at hs
  rw [hs, he, vt, Nat.add_mul, Nat.mul_assoc, Nat.mul_assoc (lat X k), Nat.mul_comm (vt (lat Y) Y.length)]
  rfl

theorem MulO.skip {X Y P : List Nat} {k : Nat} (h : MulO X Y P k) (hk : k < X.length) (h0 : lat X k = 0) : MulO X Y P (k + 1) :=
  ⟨h.len, hk, h.bd, fun j hj => h.rest j (by omega), by rw [h.eq, vt, h0, Nat.zero_mul, Nat.add_zero]⟩

theorem mul_fin {X Y P : List Nat} {w w1 w2 : World} {e : Ending} (h : MulO X Y P X.length) (hb : Below w.heap.size w w1) (hr : RetLm (trimL P) w1 e w2) : RetV (val X * val Y) (X.length + Y.length) w e w2 := by
  obtain ⟨v, rfl, hl, hb2⟩ := hr
  exact ⟨_, v, rfl, hl, bd_trim h.bd, nm_trim _, by rw [val_trim, h.eq]; rfl, by have := length_trim P; have := h.len; omega, hb.trans (hb2.mono hb.size)⟩

set_option maxRecDepth 100000 in
set_option maxHeartbeats 2000000 in
theorem mul_any (X Y : List Nat) (ao bo : Option Addr) (ca cb : Nat) (w : World) (hX : X.length ≤ 450) (hY : Y.length ≤ 450)
    (hcx : ∀ j, j < X.length → ∃ b off, ao = some ⟨b, off, none⟩ ∧ b < w.heap.size ∧ w.cell? ⟨b, off + j, none⟩ = some (.int .u32 (lat X j : Nat)))
    (hcy : ∀ j, j < Y.length → ∃ b off, bo = some ⟨b, off, none⟩ ∧ b < w.heap.size ∧ w.cell? ⟨b, off + j, none⟩ = some (.int .u32 (lat Y j : Nat))) (bX : Bd X) (bY : Bd Y) :
    Calls Tryz.prog 67 #[.slice ao X.length ca, .slice bo Y.length cb] w (RetV (val X * val Y) (X.length + Y.length) w) := by
  have HX := Lib.hid hcx
  have HY := Lib.hid hcy
  have HBX := Lib.hid bX
  have HBY := Lib.hid bY
  clear hcx hcy bX bY
  go_enter Tryz.func67, Tryz.ntmps67
  go_wp2
  refine wp_scope_straight ?_
  go_wp2_with (at_make; refine make_limbs rfl (.tmp 18) (.tmp 18) rfl ((X.length : Int) + (Y.length : Int)) (X.length + Y.length) rfl rfl (by omega) (by omega) ?_; intro w1 hR1 hB1 hs1)
  refine wp_label ?_
  go_wp2
  go_loopw [22] (fun i wr => ∃ (P : List Nat) (k : Nat), i = .int .i64 k ∧ MulO X Y P k ∧ Row wr w.heap.size P ∧ Below w.heap.size w wr)
    (fun i _ => X.length - (intOf i).toNat)
  case atStart => exact ⟨_, 0, rfl, ⟨by simp, Nat.zero_le _, fun j => by rw [lat_rep0]; omega, fun j _ => lat_rep0 _ _, by rw [vt, Nat.zero_mul, val, vt_zero (k := 0) (Nat.zero_le _) (fun j _ _ => lat_rep0 _ _)]; rfl⟩, hR1.out, hB1⟩
  case round =>
    clear hR1 hB1 hs1
    obtain ⟨P, k, rfl, hP, hrow, hnx⟩ := hrel
    have HP := Lib.hid hP
    have HR := Lib.hid hrow
    have HB := Lib.hid hnx
    have hkl := hP.le
    clear hP hrow hnx
    by_cases hlt : k < X.length
    · obtain ⟨b, off, rfl, hb, hcw⟩ := HX.out k hlt
      have hcell := (HB.out.cell (p := ⟨b, off + k, none⟩) hb).trans hcw
      clear hcw
      by_cases h0 : lat X k = 0
      · rw [h0] at hcell
        go_wp2
        go_roundw
        case rel => exact ⟨P, k + 1, by go_num, HP.out.skip hlt h0, HR.out, HB.out⟩
        case measure => simp [intOf]; omega
      · have hx1 := HBX.out k
        go_wp2
        go_loopw [10, 41] (fun c i wr' => ∃ (T : List Nat) (j q : Nat), c = .int .u64 q ∧ i = .int .i64 j ∧ MulN X Y T k j q ∧ Row wr' w.heap.size T ∧ Below w.heap.size w wr')
          (fun _ i _ => Y.length - (intOf i).toNat)
        case atStart => exact ⟨P, 0, 0, rfl, rfl, HP.out.inner, HR.out, HB.out⟩
        case round =>
          clear HP HR HB hcell
          obtain ⟨T, j, q, rfl, rfl, hT, hrow, hnx⟩ := hrel
          have HT := Lib.hid hT
          have HR := Lib.hid hrow
          have HB := Lib.hid hnx
          have hjl := hT.le
          have hq := hT.c1
          have hTl := hT.len
          by_cases hjt : j < Y.length
          · have hct := hrow.cell (j := k + j) (by rw [hTl]; omega)
            have hf := hrow.frozen (k + j)
            obtain ⟨b2, off2, rfl, hb2, hcw⟩ := HY.out j hjt
            have hcell2 := (hnx.cell (p := ⟨b2, off2 + j, none⟩) hb2).trans hcw
            have hy1 := HBY.out j
            have ht1 := hT.bd (k + j)
            have hpl : lat X k * lat Y j ≤ 999999999 * 999999999 := Nat.mul_le_mul (by omega) (by omega)
            clear hcw hT hrow hnx
            go_wp2
            go_roundw
            case rel => exact ⟨_, j + 1, (lat X k * lat Y j + lat T (k + j) + q) / 1000000000, by simp, by go_num, HT.out.step hlt hjt HBX.out HBY.out, HR.out.setI (k + j) _ (by simp), HB.out.setCell (p := ⟨w.heap.size, k + j, none⟩) (Nat.le_refl _) _⟩
            case measure => simp [intOf]; omega
          · obtain rfl : j = Y.length := by omega
            have hf := hrow.frozen (k + Y.length)
            have hct := hrow.cell (j := k + Y.length) (by rw [hTl]; omega)
            clear hT hrow hnx
            go_wp2
            go_roundw
            case rel => exact ⟨_, k + 1, by go_num, HT.out.outer hlt, HR.out.set (k + Y.length) q, HB.out.setCell (p := ⟨w.heap.size, k + Y.length, none⟩) (Nat.le_refl _) _⟩
            case measure => simp [intOf]; omega
    · obtain rfl : k = X.length := by omega
      go_wp2_with (go_at_call 81; refine (trim_calls _ P wr (by rw [HP.out.len]; omega) (by have := HR.out.lm (cap := X.length + Y.length) (by rw [HP.out.len]; exact Nat.le_refl _); rw [HP.out.len] at this; exact this)).mono ?_; rintro e w3 ⟨v, rfl, hl3, hb3⟩)
      refine noGoto_ret ?_
      go_ret
      exact mul_fin HP.out HB.out ⟨v, rfl, hl3, hb3⟩

/-- mul: the product of two naturals' limbs. -/
theorem mul_calls (vx vy : Value) (X Y : List Nat) (w : World) (hX : X.length ≤ 450) (hY : Y.length ≤ 450) (hx : Lm w vx X) (hy : Lm w vy Y) (bX : Bd X) (bY : Bd Y) :
    Calls Tryz.prog 67 #[vx, vy] w (RetV (val X * val Y) (X.length + Y.length) w) := by
  have key : ∀ {v : Value} {L : List Nat}, Lm w v L → ∃ ao c, v = .slice ao L.length c ∧ ∀ j, j < L.length → ∃ b off, ao = some ⟨b, off, none⟩ ∧ b < w.heap.size ∧ w.cell? ⟨b, off + j, none⟩ = some (.int .u32 (lat L j : Nat)) := by
    rintro v L (⟨rfl, rfl⟩ | ⟨b, off, cap, rfl, _, hlt, hcs⟩)
    · exact ⟨none, 0, rfl, fun j hj => by simp at hj⟩
    · exact ⟨_, cap, rfl, fun j hj => ⟨b, off, rfl, hlt, hcs j hj⟩⟩
  obtain ⟨ao, ca, rfl, h1⟩ := key hx
  obtain ⟨bo, cb, rfl, h2⟩ := key hy
  exact mul_any X Y ao bo ca cb w hX hY h1 h2 bX bY
end Go.Proofs.YtgcalhnfoakggaaGreatDoor
