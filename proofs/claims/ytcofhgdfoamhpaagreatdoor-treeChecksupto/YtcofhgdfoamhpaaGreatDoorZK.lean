/- The document's own: Key; and what fits, in its words. -/
import Derived.Test.YtcofhgdfoamhpaaGreatDoorY4
import Derived.Test.YtcofhgdfoamhpaaGreatDoorZA
namespace Go.Proofs.YtcofhgdfoamhpaaGreatDoor
open Go.RowKit

def keyS (n : Int) (h : Hd) : Bool := if h.kind = 3 ∧ ¬ n = 1 then (toI h.neg h.dig.data.toList h.exp).isSome else decide (h.kind = 5) || (decide (¬ n = 1) && (decide (h.kind = 6) || decide (h.kind = 2) || decide (h.kind = 1)))
set_option maxRecDepth 100000 in
set_option maxHeartbeats 1000000 in
theorem rKey_calls (h : Hd) (A : Option Addr) (m c : Nat) (n : Int) (w : World) : Calls Tryz.prog 44 #[.agg (h.cells (.slice A m c)), .int .i64 n] w (BolP (keyS n h) w) := by
  obtain ⟨R, hR⟩ : ∃ R, R = toI h.neg h.dig.data.toList h.exp := ⟨_, rfl⟩
  have HTo : Hid (∀ W, Calls Tryz.prog 43 #[.agg #[.bool h.neg, .string h.dig, .int .i64 h.exp]] W (ToP R W)) := Lib.hid (fun W => by rw [hR]; exact rToInt_p h.neg h.dig h.exp W)
  by_cases hk : h.kind = 3 ∧ ¬ n = 1
  · have HF : Hid (keyS n h = R.isSome) := Lib.hid (by rw [keyS, if_pos hk, hR])
    rw [HF.out]
    obtain ⟨h3, hn⟩ := hk
    clear hR HF
    simp only [Hd.cells]
    rw [h3]
    clear h3
    go_enter Tryz.func44, Tryz.ntmps44
    go_wp2_with fail
    refine (HTo.out _).mono ?_
    rintro o w1 ⟨rfl, hb1⟩
    have HB1 := Lib.hid (below_nx (below_a (Below.refl _ _) _) hb1)
    clear hb1
    go_wp2_with fail
    go_ret
    exact ⟨rfl, HB1.out⟩
  · have HF : Hid (keyS n h = (decide (h.kind = 5) || (decide (¬ n = 1) && (decide (h.kind = 6) || decide (h.kind = 2) || decide (h.kind = 1))))) := Lib.hid (by rw [keyS, if_neg hk])
    rw [HF.out]
    clear hR HF
    simp only [Hd.cells]
    go_enter Tryz.func44, Tryz.ntmps44
    go_wp2
    all_goals first
      | (exfalso; simp_all; done)
      | (go_ret; refine ⟨?_, below_a (Below.refl _ _) _⟩; show Ending.returned (Value.bool _) = Ending.returned (Value.bool _); congr 2; first | (simp_all; done) | (rw [Bool.eq_iff_iff]; simp; omega) | (simp_all; rw [Bool.eq_iff_iff]; simp; omega))
theorem toI_lt {neg : Bool} {l : List UInt8} {e : Int} : tK (toI neg l e) ≤ 18446744073709551615 := by
  rw [toI]
  split
  · rename_i h
    show dv l * 10 ^ e.toNat ≤ _
    have := h.2.2.2
    omega
  · decide
theorem frm_no {n : Int} (hn : n < 1 ∨ 4 < n) : frmOf n = ⟨0, 0, false, 0, 0, false⟩ := by
  rw [frmOf, if_neg (by omega), if_neg (by omega), if_neg (by omega), if_neg (by omega)]
def kS (n : Int) : Fo → Bool
  | .nil => true
  | .cons h _ r => keyS n h && kS n r
theorem kS_app (n : Int) : ∀ (f g : Fo), kS n (f.app g) = (kS n f && kS n g)
  | .nil, _ => rfl
  | .cons _ _ r, g => by simp only [Fo.app, kS]; rw [kS_app n r g, Bool.and_assoc]
theorem fitAll_app (F : Frm) : ∀ (f g : Fo), fitAll F (f.app g) = (fitAll F f && fitAll F g)
  | .nil, _ => rfl
  | .cons _ _ r, g => by simp only [Fo.app, fitAll]; rw [fitAll_app F r g]; simp only [Bool.and_assoc]
/-- A key that fits as a node is a key just if its kind is one of a key's. -/
theorem key_eq {n : Int} (h1 : 1 ≤ n) (h4 : n ≤ 4) {h : Hd} {k : Fo} (hf : fitN (frmOf n) h k = true) (hk : 1 ≤ h.kind ∧ h.kind ≤ 11) : keyS n h = hasB (frmOf n).keys h.kind := by
  have hn : n = 1 ∨ n = 2 ∨ n = 3 ∨ n = 4 := by omega
  have hc : h.kind = 1 ∨ h.kind = 2 ∨ h.kind = 3 ∨ h.kind = 4 ∨ h.kind = 5 ∨ h.kind = 6 ∨ h.kind = 7 ∨ h.kind = 8 ∨ h.kind = 9 ∨ h.kind = 10 ∨ h.kind = 11 := by omega
  by_cases h3 : h.kind = 3 ∧ ¬ n = 1
  · have hw : (toI h.neg h.dig.data.toList h.exp).isSome = true := by
      rw [fitN, Bool.and_eq_true, if_pos h3.1] at hf
      have := hf.2
      rw [fitNum] at this
      have hwh : (frmOf n).whole = true := by rcases hn with rfl | rfl | rfl | rfl <;> first | rfl | exact absurd rfl h3.2
      rw [hwh, Bool.not_true, Bool.false_or, Bool.and_eq_true] at this
      exact this.1
    rw [keyS, if_pos h3, hw, h3.1]
    rcases hn with rfl | rfl | rfl | rfl <;> first | decide | exact absurd rfl h3.2
  · rw [keyS, if_neg h3]
    rcases hc with hc | hc | hc | hc | hc | hc | hc | hc | hc | hc | hc <;> rw [hc] <;> rw [hc] at h3 <;> rcases hn with rfl | rfl | rfl | rfl <;> first | decide | (exfalso; exact h3 ⟨rfl, by decide⟩)
theorem keysF_fit {F : Frm} : ∀ {f : Fo}, fitAll F f = true → fitAll F (keysF f) = true
  | .nil, _ => rfl
  | .cons _ _ .nil, e => by simpa [keysF] using e
  | .cons h k (.cons _ _ r), e => by
    simp only [fitAll, keysF, Bool.and_eq_true] at e ⊢
    exact ⟨e.1, keysF_fit e.2.2⟩
theorem keysF_kinds : ∀ {f : Fo}, AllG Gk f → AllG Gk (keysF f)
  | .nil, _ => trivial
  | .cons _ _ .nil, e => by simpa [keysF] using e
  | .cons h k (.cons _ _ r), e => by
    simp only [keysF]
    exact ⟨e.1, e.2.1, keysF_kinds e.2.2.2.2⟩
theorem kS_eq {n : Int} (h1 : 1 ≤ n) (h4 : n ≤ 4) : ∀ {f : Fo}, fitAll (frmOf n) f = true → AllG Gk f → kS n f = keyAll (frmOf n).keys f
  | .nil, _, _ => rfl
  | .cons h k r, e, g => by
    simp only [fitAll, Bool.and_eq_true] at e
    rw [kS, keyAll, key_eq h1 h4 e.1.1 g.1, kS_eq h1 h4 e.2 g.2.2]
theorem keys_and {n : Int} (h1 : 1 ≤ n) (h4 : n ≤ 4) {f : Fo} (g : AllG Gk f) : (kS n (keysF f) && fitAll (frmOf n) f) = (keyAll (frmOf n).keys (keysF f) && fitAll (frmOf n) f) := by
  cases hf : fitAll (frmOf n) f with
  | false => rw [Bool.and_false, Bool.and_false]
  | true => rw [kS_eq h1 h4 (keysF_fit hf) (keysF_kinds g)]
end Go.Proofs.YtcofhgdfoamhpaaGreatDoor
