/- The walk of scale. -/
import Derived.Test.YtgcalhnfoakggaaGreatDoorMn2
import Derived.RangeFuncBox
import Derived.Maps.AppendAt
namespace Go.Proofs.YtgcalhnfoakggaaGreatDoor
open Go.RowKit

theorem own_lm {W : World} {B : Nat} {v : Value} {S : List Nat} (h : W.ownsRow B 68 1 v S.length (mapv S)) : Lm W v S := by
  rcases h.2 with ⟨rfl, h0⟩ | ⟨g, cap, cur, rfl, hb, hg, hc, hm, hs, ht⟩
  · exact .inl ⟨rfl, List.eq_nil_of_length_eq_zero h0⟩
  · refine .inr ⟨g, 0, cap, rfl, hc, (Array.getElem?_eq_some_iff.1 hg).1, fun j hj => ?_⟩
    rw [Nat.zero_add, h.cellAt j (by omega)]
    exact mapv_get hj

theorem lat_left {S T : List Nat} {j : Nat} (h : j < S.length) : lat (S ++ T) j = lat S j := by simp only [lat, List.getElem?_append_left h]
theorem mapv_snoc (S : List Nat) (x : Nat) : mapv (S ++ [x]) = mapv S ++ [.int .u32 (x : Int)] := by simp [mapv]
theorem bd_snoc {S : List Nat} (h : Bd S) {x : Nat} (hx : x < 1000000000) : Bd (S ++ [x]) := by
  intro j
  rcases Nat.lt_trichotomy j S.length with e | e | e
  · rw [lat_left e]; exact h j
  · subst e; rw [show lat (S ++ [x]) S.length = x from by simp [lat]]; exact hx
  · rw [lat_ge (by simp; omega)]; omega
theorem val_snoc (S : List Nat) (x : Nat) : val (S ++ [x]) = val S + x * 1000000000 ^ S.length := by
  rw [val, List.length_append, List.length_singleton, vt, show lat (S ++ [x]) S.length = x from by simp [lat], val]
  congr 1
  exact vt_congr fun j hj => lat_left hj

/-- k limbs of the product. -/
structure ScI (X : List Nat) (f m : Nat) (S : List Nat) (k c : Nat) : Prop where
  len : S.length = k
  le : k ≤ X.length
  bd : Bd S
  c1 : c ≤ 4294967296
  eq : val S + c * 1000000000 ^ k = vt (lat X) k * f + m

theorem ScI.step {X S : List Nat} {f m k c : Nat} (h : ScI X f m S k c) (hk : k < X.length) (bX : Bd X) (hf : f < 4294967296) : ScI X f m (S ++ [(lat X k * f + c) % 1000000000]) (k + 1) ((lat X k * f + c) / 1000000000) := by
  have hx := bX k
  have hc := h.c1
  have hm : lat X k * f ≤ 999999999 * 4294967295 := Nat.mul_le_mul (by omega) (by omega)
  refine ⟨by simp [h.len], hk, bd_snoc h.bd (Nat.mod_lt _ (by omega)), by omega, ?_⟩
  have hr : (vt (lat X) k + lat X k * 1000000000 ^ k) * f = vt (lat X) k * f + lat X k * f * 1000000000 ^ k := by rw [Nat.add_mul, Nat.mul_right_comm]
  rw [val_snoc, h.len, vt, Nat.pow_succ, Nat.mul_comm (1000000000 ^ k) 1000000000, ← Nat.mul_assoc, hr]
  have h1 := h.eq
  generalize lat X k * f = P at *
  have h3 : ((P + c) % 1000000000 + (P + c) / 1000000000 * 1000000000) * 1000000000 ^ k = (P + c) * 1000000000 ^ k := by rw [show (P + c) % 1000000000 + (P + c) / 1000000000 * 1000000000 = P + c from by omega]
  rw [Nat.add_mul, Nat.add_mul] at h3
  omega

/-- What is left is written behind. -/
structure ScJ (X : List Nat) (f m : Nat) (S : List Nat) (c : Nat) : Prop where
  len : (S.length = X.length ∧ c ≤ 4294967296) ∨ (S.length = X.length + 1 ∧ c ≤ 4) ∨ (S.length = X.length + 2 ∧ c = 0)
  bd : Bd S
  eq : val S + c * 1000000000 ^ S.length = val X * f + m

theorem ScI.fin {X S : List Nat} {f m c : Nat} (h : ScI X f m S X.length c) : ScJ X f m S c :=
  ⟨.inl ⟨h.len, h.c1⟩, h.bd, by have := h.eq; rw [h.len]; exact this⟩
theorem ScJ.step {X S : List Nat} {f m c : Nat} (h : ScJ X f m S c) (hc : 0 < c) : ScJ X f m (S ++ [c % 1000000000]) (c / 1000000000) := by
  refine ⟨?_, bd_snoc h.bd (Nat.mod_lt _ (by omega)), ?_⟩
  · rw [List.length_append, List.length_singleton]
    rcases h.len with ⟨h1, h2⟩ | ⟨h1, h2⟩ | ⟨h1, h2⟩
    · exact .inr (.inl ⟨by omega, by omega⟩)
    · exact .inr (.inr ⟨by omega, by omega⟩)
    · omega
  · rw [val_snoc, List.length_append, List.length_singleton, Nat.pow_succ, Nat.mul_comm (1000000000 ^ S.length) 1000000000, ← Nat.mul_assoc, ← h.eq]
    have h3 : (c % 1000000000 + c / 1000000000 * 1000000000) * 1000000000 ^ S.length = c * 1000000000 ^ S.length := by rw [show c % 1000000000 + c / 1000000000 * 1000000000 = c from by omega]
    rw [Nat.add_mul] at h3
    omega

theorem scale_fin {X S : List Nat} {f m : Nat} {w w1 w2 : World} {e : Ending} (h : ScJ X f m S 0) (hb : Below w.heap.size w w1) (hr : RetLm (trimL S) w1 e w2) : RetV (val X * f + m) (X.length + 2) w e w2 := by
  obtain ⟨v, rfl, hl, hb2⟩ := hr
  refine ⟨_, v, rfl, hl, bd_trim h.bd, nm_trim _, by rw [val_trim, ← h.eq, Nat.zero_mul, Nat.add_zero], ?_, hb.trans (hb2.mono hb.size)⟩
  have := length_trim S
  rcases h.len with ⟨h1, _⟩ | ⟨h1, _⟩ | ⟨h1, _⟩ <;> omega

set_option maxRecDepth 100000 in
set_option maxHeartbeats 2000000 in
theorem scale_any (X : List Nat) (ao : Option Addr) (cap f m : Nat) (w : World) (hX : X.length ≤ 900) (hc : ∀ j, j < X.length → ∃ b off, ao = some ⟨b, off, none⟩ ∧ b < w.heap.size ∧ w.cell? ⟨b, off + j, none⟩ = some (.int .u32 (lat X j : Nat)))
    (bX : Bd X) (hf : f < 4294967296) (hm : m < 4294967296) :
    Calls Tryz.prog 64 #[.slice ao X.length cap, .int .u32 (f : Int), .int .u32 (m : Int)] w (RetV (val X * f + m) (X.length + 2) w) := by
  obtain ⟨i0, hi, hz0, hz1, hz2⟩ := info_parts info31
  have HC := Lib.hid hc
  have HBX := Lib.hid bX
  have HI := Lib.hid hi
  have HZ0 := Lib.hid hz0
  have HZ1 := Lib.hid hz1
  have HZ2 := Lib.hid hz2
  clear hc bX hi hz0 hz1 hz2
  go_enter Tryz.func64, Tryz.ntmps64
  go_wp2_with (at_make; refine wpList_make_own _ rfl _ _ 96 rfl w.heap.size 68 i0 (.int .u32 0) 1 Tryz.underlying96 HI.out HZ0.out HZ1.out .i64 .i64 _ (X.length + 2) rfl rfl (by omega) (by rw [HZ2.out]; omega) (by unfold maxLen; omega) (Nat.le_refl _) ?_; intro w1 hown1 hg1)
  go_loopw [7, 8, 10, 11, 20] (fun v c _ _ i wr => ∃ (S : List Nat) (k q : Nat), c = .int .u64 q ∧ i = .int .i64 k ∧ ScI X f m S k q ∧ wr.ownsRow w.heap.size 68 1 v S.length (mapv S) ∧ Below w.heap.size w wr)
    (fun _ _ _ _ i _ => X.length - (intOf i).toNat)
  case atStart =>
    exact ⟨[], 0, m, rfl, rfl, ⟨rfl, Nat.zero_le _, fun j => by simp [lat], by omega, by simp [val, vt]⟩, hown1, (Below.refl _ _).grown hg1 (Nat.le_refl _) (fun k e => by cases e)⟩
  case round =>
    obtain ⟨S, k, q, rfl, rfl, hS, hown, hnx⟩ := hrel
    have HS := Lib.hid hS
    have hkl := hS.le
    have hSl := hS.len
    have hq := hS.c1
    have HO := Lib.hid hown
    have HB := Lib.hid hnx
    clear hS hown
    by_cases hlt : k < X.length
    · obtain ⟨b, off, rfl, hb, hcw⟩ := HC.out k hlt
      have hcell := (hnx.cell (p := ⟨b, off + k, none⟩) hb).trans hcw
      clear hcw
      have hx1 := HBX.out k
      have hpl : lat X k * f ≤ 999999999 * 4294967295 := Nat.mul_le_mul (by omega) (by omega)
      clear hSl hnx
      go_wp2_with (at_builtin; refine wpList_append_own _ rfl (.tmp 31) (.tmp 35) 96 rfl w.heap.size 68 i0 (.int .u32 0) 1 4 Tryz.underlying96 HI.out HZ0.out HZ1.out HZ2.out rfl (by decide) _ _ _ rfl (HO.out.alloc _) ⟨wr.heap.size, 0, none⟩ 1 1 [.int .u32 (((lat X k : Int) * (f : Int) + (q : Int)) % 1000000000)] rfl rfl (cell_one_new _ _ _) (by simp [Value.oneCell']) (by have := HS.out.len; unfold maxLen; omega) (by have := HS.out.len; omega) (by have := HB.out.size; simp; omega) ?_; intro v' w2 hown2 hg2 hnil)
      have HO2 := Lib.hid hown2
      have HB2 := Lib.hid ((HB.out.alloc HB.out.size _).grown hg2 (by have := HB.out.size; simp; omega) (fun k e => (HO.out.lt k e).1))
      clear hown2 hg2 hnil
      go_roundw
      case rel =>
        refine ⟨S ++ [(lat X k * f + q) % 1000000000], k + 1, (lat X k * f + q) / 1000000000, by go_num, by go_num, HS.out.step hlt HBX.out hf, ?_, HB2.out⟩
        rw [List.length_append, List.length_singleton, mapv_snoc, show (((lat X k * f + q) % 1000000000 : Nat) : Int) = ((lat X k : Int) * (f : Int) + (q : Int)) % 1000000000 from by omega]
        exact HO2.out
      case measure => simp [intOf]; omega
    · obtain rfl : k = X.length := by omega
      have HJ := Lib.hid HS.out.fin
      clear HS hSl hnx
      go_wp2
      go_loopw [7, 8] (fun v c wr => ∃ (S : List Nat) (q : Nat), c = .int .u64 q ∧ ScJ X f m S q ∧ wr.ownsRow w.heap.size 68 1 v S.length (mapv S) ∧ Below w.heap.size w wr)
        (fun _ c _ => (intOf c).toNat)
      case atStart => exact ⟨S, q, rfl, HJ.out, HO.out, HB.out⟩
      case round =>
        clear HJ HO HB
        obtain ⟨T, q, rfl, hT, hown, hnx⟩ := hrel
        have HT := Lib.hid hT
        have HO := Lib.hid hown
        have HB := Lib.hid hnx
        have hTl : T.length ≤ X.length + 2 ∧ q ≤ 4294967296 := by rcases hT.len with ⟨h1, h2⟩ | ⟨h1, h2⟩ | ⟨h1, h2⟩ <;> omega
        obtain ⟨hTl1, hTl2⟩ := hTl
        clear hT hown hnx
        by_cases hq0 : q = 0
        · subst hq0
          go_wp2_with (go_at_call 81; refine (trim_calls _ T _ (by omega) (own_lm HO.out)).mono ?_; rintro e w3 ⟨v, rfl, hl3, hb3⟩)
          go_ret
          exact scale_fin HT.out HB.out ⟨v, rfl, hl3, hb3⟩
        · have hq1 : 0 < q := by omega
          go_wp2_with (at_builtin; refine wpList_append_own _ rfl (.tmp 42) (.tmp 46) 96 rfl w.heap.size 68 i0 (.int .u32 0) 1 4 Tryz.underlying96 HI.out HZ0.out HZ1.out HZ2.out rfl (by decide) _ _ _ rfl (HO.out.alloc _) ⟨_, 0, none⟩ 1 1 [.int .u32 ((q : Int) % 1000000000)] rfl rfl (cell_one_new _ _ _) (by simp [Value.oneCell']) (by unfold maxLen; omega) (by omega) (by have := HB.out.size; simp; omega) ?_; intro v' w2 hown2 hg2 hnil)
          have HO2 := Lib.hid hown2
          have HB2 := Lib.hid ((HB.out.alloc HB.out.size _).grown hg2 (by have := HB.out.size; simp; omega) (fun k e => (HO.out.lt k e).1))
          clear hown2 hg2 hnil
          go_roundw
          case rel =>
            refine ⟨T ++ [q % 1000000000], q / 1000000000, by go_num, HT.out.step hq1, ?_, HB2.out⟩
            rw [List.length_append, List.length_singleton, mapv_snoc, show ((q % 1000000000 : Nat) : Int) = (q : Int) % 1000000000 from by omega]
            exact HO2.out
          case measure => simp [intOf]; omega

/-- scale: x times a factor, and more. -/
theorem scale_calls (X : List Nat) (v : Value) (f m : Nat) (w : World) (hX : X.length ≤ 900) (hx : Lm w v X) (bX : Bd X) (hf : f < 4294967296) (hm : m < 4294967296) :
    Calls Tryz.prog 64 #[v, .int .u32 (f : Int), .int .u32 (m : Int)] w (RetV (val X * f + m) (X.length + 2) w) := by
  rcases hx with ⟨rfl, rfl⟩ | ⟨b, off, cap, rfl, _, hlt, hcs⟩
  · exact scale_any [] none 0 f m w (by simp) (fun j hj => by simp at hj) bX hf hm
  · exact scale_any X (some ⟨b, off, none⟩) cap f m w hX (fun j hj => ⟨b, off, rfl, hlt, hcs j hj⟩) bX hf hm
end Go.Proofs.YtgcalhnfoakggaaGreatDoor
