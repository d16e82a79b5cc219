/- The law TreeWraps. The law TreeParts. The law TreeForms. The document's own: Key; and what fits, in its words. -/
import Derived.Test.YtomociaidccfmaaGreatDoorMr
import Derived.Test.YtomociaidccfmaaGreatDoorNe

namespace Go.Proofs.YtomociaidccfmaaGreatDoor
open Go.RowKit

theorem wrap_ge {x : Nat} (h : 300 ≤ wrap64 (x : Int)) : 300 ≤ x := by
  rcases Nat.lt_or_ge x 300 with h1 | h1
  · exfalso
    have : wrap64 (x : Int) = (x : Int) := by unfold wrap64; omega
    omega
  · exact h1
theorem okN_arr (k : Fo) : okN arrH k = true := by
  rw [okN, if_neg (by decide), if_neg (by decide), if_neg (by decide), if_neg (by decide), if_neg (by decide), if_neg (by decide), if_pos (by decide)]
  simp [o_isArray, j_isArray, sameH, arrH]
theorem okAll_arr (k : Fo) : okAll okN (.cons arrH k .nil) = okAll okN k := by
  rw [okAll, okN_arr]
  simp [okAll, arrH]
theorem fitN_arr {n : Int} (h1 : 1 ≤ n) (h4 : n ≤ 4) (k : Fo) : fitN (frmOf n) arrH k = true := by
  have : n = 1 ∨ n = 2 ∨ n = 3 ∨ n = 4 := by omega
  rcases this with rfl | rfl | rfl | rfl <;> simp [fitN, frmOf, arrH, hasB]
theorem fitAll_arr {n : Int} (h1 : 1 ≤ n) (h4 : n ≤ 4) (k : Fo) : fitAll (frmOf n) (.cons arrH k .nil) = fitAll (frmOf n) k := by
  rw [fitAll, fitN_arr h1 h4]
  simp [fitAll]
theorem wraps_far {n : Int} {h : Hd} {k : Fo} (hf : 16 ≤ k.deep + 1 ∨ 300 ≤ 1 + k.cnt) : chk n arrH (.cons h k .nil) = 60 := by
  have : rgt arrH (.cons h k .nil) = false := by
    rw [rgt, rightR, decide_eq_false (by simp only [Fo.cnt, Fo.deep]; omega), Bool.false_and]
  rw [chk, this]
  rfl
theorem wraps_near {n : Int} {h : Hd} {k : Fo} (h1 : 1 ≤ n) (h4 : n ≤ 4) (hd : k.deep + 1 < 16) (hc : wrap64 (1 + (k.cnt : Int)) < 300) : chk n h k = chk n arrH (.cons h k .nil) := by
  have hr : rgt arrH (.cons h k .nil) = rgt h k := by
    rw [rgt, rgt, rightR, rightR, okAll_arr]
    rcases Nat.lt_or_ge (1 + k.cnt) 300 with hs | hs
    · rw [decide_eq_true (by simp only [Fo.cnt, Fo.deep]; omega), decide_eq_true (by omega)]
    · have hb : 9223372036854775808 ≤ 1 + k.cnt := by
        apply Decidable.byContradiction
        intro hn
        have : wrap64 (1 + (k.cnt : Int)) = 1 + (k.cnt : Int) := by unfold wrap64; omega
        omega
      rw [decide_eq_false (by simp only [Fo.cnt, Fo.deep]; omega), decide_eq_false (by omega)]
  rw [chk, chk, hr, fitAll_arr h1 h4]
theorem wrap_ge' {c : Nat} {X : Int} (hX : X = wrap64 (1 + (c : Int))) (h : 300 ≤ X) : 300 ≤ 1 + c := by
  refine wrap_ge ?_
  rw [show ((1 + c : Nat) : Int) = 1 + (c : Int) by omega, ← hX]
  exact h
theorem wraps_fin {n a b X : Int} {h : Hd} {k : Fo} {d : Nat} (ha : a = chk n h k) (hb : b = chk n arrH (.cons h k .nil)) (hd : d = k.deep + 1) (hX : X = wrap64 (1 + (k.cnt : Int))) (h1 : 1 ≤ n) (h4 : n ≤ 4) (g1 : d < 16) (g2 : X < 300) : a = b := by
  rw [ha, hb]
  exact wraps_near h1 h4 (by omega) (by rw [← hX]; exact g2)
end Go.Proofs.YtomociaidccfmaaGreatDoor

namespace Go.Proofs.YtomociaidccfmaaGreatDoor
open Go.RowKit

theorem okAll_drop {ok : Hd → Fo → Bool} : ∀ (j : Nat) {f : Fo} {h : Hd} {k r : Fo}, okAll ok f = true → f.drop j = .cons h k r → okAll ok (.cons h k .nil) = true
  | 0, .cons _ _ _, _, _, _, e, d => by
    cases d
    rw [okAll, Bool.and_eq_true] at e
    rw [okAll, e.1]
    rfl
  | 0, .nil, _, _, _, _, d => by cases d
  | _ + 1, .nil, _, _, _, _, d => by cases d
  | j + 1, .cons _ _ _, _, _, _, e, d => by
    rw [okAll, Bool.and_eq_true] at e
    exact okAll_drop j e.2 d
theorem fitAll_drop {F : Frm} : ∀ (j : Nat) {f : Fo} {h : Hd} {k r : Fo}, fitAll F f = true → f.drop j = .cons h k r → fitAll F (.cons h k .nil) = true
  | 0, .cons _ _ _, _, _, _, e, d => by
    cases d
    rw [fitAll, Bool.and_eq_true] at e
    rw [fitAll, e.1]
    rfl
  | 0, .nil, _, _, _, _, d => by cases d
  | _ + 1, .nil, _, _, _, _, d => by cases d
  | j + 1, .cons _ _ _, _, _, _, e, d => by
    rw [fitAll, Bool.and_eq_true] at e
    exact fitAll_drop j e.2 d
theorem part_rgt {j : Nat} {h h' : Hd} {k k' r : Fo} (e : rgt h k = true) (d : k.drop j = .cons h' k' r) : rgt h' k' = true := by
  rw [rgt, rightR, Bool.and_eq_true, decide_eq_true_eq, okAll, Bool.and_eq_true, Bool.and_eq_true] at e
  have h1 := take_cnt j k d
  have h2 := drop_deep j k d
  rw [rgt, rightR, decide_eq_true (by omega), okAll_drop j e.2.1.2 d]
  rfl
theorem part_chk {j : Nat} {n : Int} {h h' : Hd} {k k' r : Fo} (e : rgt h k = true) (c : chk n h k = 0) (d : k.drop j = .cons h' k' r) : chk n h' k' = 0 := by
  rw [chk, e, if_pos rfl] at c
  have hf : fitAll (frmOf n) (.cons h k .nil) = true := by
    cases hq : fitAll (frmOf n) (.cons h k .nil) with
    | true => rfl
    | false => rw [hq] at c; cases c
  rw [fitAll, Bool.and_eq_true, Bool.and_eq_true] at hf
  rw [chk, part_rgt e d, if_pos rfl, fitAll_drop j hf.1.2 d]
  rfl
end Go.Proofs.YtomociaidccfmaaGreatDoor

namespace Go.Proofs.YtomociaidccfmaaGreatDoor
open Go.RowKit

theorem hasB_lt {S m : Nat} {k : Int} (hS : S < 2 ^ m) (h : hasB S k = true) : k.toNat < m := by
  rcases Nat.lt_or_ge k.toNat m with h1 | h1
  · exact h1
  · exfalso
    rw [hasB, Nat.div_eq_of_lt (Nat.lt_of_lt_of_le hS (Nat.pow_le_pow_right (by decide) h1))] at h
    cases h
theorem hasB_0 (k : Int) : hasB 0 k = false := by rw [hasB, Nat.zero_div]; rfl
theorem hasB_32 {k : Int} (h : hasB 32 k = true) : k = 5 := by
  have h1 := hasB_lt (m := 6) (by decide) h
  obtain ⟨t, ht⟩ : ∃ t, t = k.toNat := ⟨_, rfl⟩
  rw [hasB, ← ht] at h
  rw [← ht] at h1
  have : t = 0 ∨ t = 1 ∨ t = 2 ∨ t = 3 ∨ t = 4 ∨ t = 5 := by omega
  rcases this with rfl | rfl | rfl | rfl | rfl | rfl <;> first | (exfalso; revert h; decide) | omega
theorem hasB_430 {k : Int} (h : hasB 430 k = true) : k = 1 ∨ k = 2 ∨ k = 3 ∨ k = 5 ∨ k = 7 ∨ k = 8 := by
  have h1 := hasB_lt (m := 9) (by decide) h
  obtain ⟨t, ht⟩ : ∃ t, t = k.toNat := ⟨_, rfl⟩
  rw [hasB, ← ht] at h
  rw [← ht] at h1
  have : t = 0 ∨ t = 1 ∨ t = 2 ∨ t = 3 ∨ t = 4 ∨ t = 5 ∨ t = 6 ∨ t = 7 ∨ t = 8 := by omega
  rcases this with rfl | rfl | rfl | rfl | rfl | rfl | rfl | rfl | rfl <;> first | (exfalso; revert h; decide) | omega
theorem key_110 : ∀ {f : Fo}, keyAll 32 f = true → keyAll 110 f = true
  | .nil, _ => rfl
  | .cons h k r, e => by
    rw [keyAll, Bool.and_eq_true] at e
    rw [keyAll, hasB_32 e.1, key_110 e.2]
    decide
def smH (h : Hd) : Bool := (toI h.neg h.dig.data.toList h.exp).isSome && !tN (toI h.neg h.dig.data.toList h.exp) && decide (tK (toI h.neg h.dig.data.toList h.exp) ≤ 9223372036854775808)
def smF : Fo → Bool
  | .nil => true
  | .cons h k r => (if h.kind = 3 then smH h else smF k) && smF r
def smN (h : Hd) (k : Fo) : Bool := if h.kind = 3 then smH h else smF k
theorem least_ge (a : Nat) : 16 ≤ leastW a := by
  rw [leastW]
  split
  · decide
  · split <;> decide
theorem fitN_dc {h : Hd} {k : Fo} (e : fitN (frmOf 3) h k = true) : fitN (frmOf 2) h k = true := by
  rw [fitN, Bool.and_eq_true] at e ⊢
  obtain ⟨e1, e2⟩ := e
  refine ⟨e1, ?_⟩
  by_cases h3 : h.kind = 3
  · rw [if_pos h3] at e2 ⊢; exact e2
  · rw [if_neg h3] at e2 ⊢
    by_cases h4 : h.kind = 4
    · rw [if_pos h4] at e2 ⊢
      have e3 : leastW ((widO h.u h.w).getD 0) = h.w := by
        have : fitFl (frmOf 3) h.u h.w = (leastW ((widO h.u h.w).getD 0) == h.w) := rfl
        rw [this] at e2
        exact beq_iff_eq.1 e2
      have e4 : fitFl (frmOf 2) h.u h.w = decide ((16 : Int) ≤ h.w) := rfl
      rw [e4, ← e3]
      exact decide_eq_true (least_ge _)
    · rw [if_neg h4] at e2 ⊢
      exact e2
theorem fitAll_dc : ∀ {f : Fo}, fitAll (frmOf 3) f = true → fitAll (frmOf 2) f = true
  | .nil, _ => rfl
  | .cons h k r, e => by
    rw [fitAll, Bool.and_eq_true, Bool.and_eq_true] at e
    rw [fitAll, fitN_dc e.1.1, fitAll_dc e.1.2, fitAll_dc e.2]
    rfl
theorem num_leaf {h : Hd} {k : Fo} (h3 : h.kind = 3) (e : okN h k = true) : k = .nil := by
  rw [okN, if_neg (by omega), if_neg (by omega), if_pos h3, o_isNum, Bool.and_eq_true, j_isNum, Bool.and_eq_true] at e
  have := beq_iff_eq.1 e.1.2
  cases k with
  | nil => rfl
  | cons _ _ _ => simp only [Fo.len] at this; omega
theorem fitN_j {n : Int} (hn : n = 2 ∨ n = 3 ∨ n = 4) {h : Hd} {k : Fo} (e : fitN (frmOf 1) h k = true) (hs : h.kind = 3 → smH h = true) : fitN (frmOf n) h k = true := by
  rw [fitN, Bool.and_eq_true] at e
  obtain ⟨e1, e2⟩ := e
  have hk := hasB_430 e1
  have hb : hasB (frmOf n).kinds h.kind = true := by
    rcases hn with rfl | rfl | rfl <;> rcases hk with hk | hk | hk | hk | hk | hk <;> rw [hk] <;> decide
  rw [fitN, hb, Bool.true_and]
  by_cases h3 : h.kind = 3
  · rw [if_pos h3]
    have := hs h3
    rw [smH, Bool.and_eq_true, Bool.and_eq_true] at this
    rw [fitNum, this.1.1, this.1.2]
    simp
  · rw [if_neg h3, if_neg (by omega)]
    by_cases h8 : h.kind = 8
    · rw [if_pos h8]
      rw [if_neg h3, if_neg (by omega), if_pos h8] at e2
      have e3 : keyAll 32 (keysF k) = true := e2
      rcases hn with rfl | rfl | rfl <;> exact key_110 e3
    · rw [if_neg h8]
theorem fitAll_j {n : Int} (hn : n = 2 ∨ n = 3 ∨ n = 4) : ∀ {f : Fo}, okAll okN f = true → fitAll (frmOf 1) f = true → smF f = true → fitAll (frmOf n) f = true
  | .nil, _, _, _ => rfl
  | .cons h k r, o, e, s => by
    rw [fitAll, Bool.and_eq_true, Bool.and_eq_true] at e
    rw [okAll, Bool.and_eq_true, Bool.and_eq_true, Bool.and_eq_true] at o
    rw [smF, Bool.and_eq_true] at s
    have hk : fitAll (frmOf n) k = true := by
      by_cases h3 : h.kind = 3
      · rw [num_leaf h3 o.1.1.2]; rfl
      · rw [if_neg h3] at s
        exact fitAll_j hn o.1.2 e.1.2 s.1
    rw [fitAll, fitN_j hn e.1.1 (fun h3 => by rw [if_pos h3] at s; exact s.1), hk, fitAll_j hn o.2 e.2 s.2]
    rfl
theorem chk_ok {n : Int} {h : Hd} {k : Fo} : chk n h k = 0 ↔ rgt h k = true ∧ fitAll (frmOf n) (.cons h k .nil) = true := by
  rw [chk]
  cases rgt h k <;> cases fitAll (frmOf n) (.cons h k .nil) <;> simp
theorem forms_dc {h : Hd} {k : Fo} (e : chk 3 h k = 0) : chk 2 h k = 0 := by
  rw [chk_ok] at e ⊢
  exact ⟨e.1, fitAll_dc e.2⟩
theorem forms_j {n : Int} (hn : n = 2 ∨ n = 3 ∨ n = 4) {h : Hd} {k : Fo} (e : chk 1 h k = 0) (s : smN h k = true) : chk n h k = 0 := by
  rw [chk_ok] at e ⊢
  have o := e.1
  rw [rgt, rightR, Bool.and_eq_true] at o
  exact ⟨e.1, fitAll_j hn o.2 e.2 (by rw [smF, show (if h.kind = 3 then smH h else smF k) = true from s]; rfl)⟩
theorem forms_no {n : Int} (hn : n < 1 ∨ 4 < n) {h : Hd} {k : Fo} : ¬ chk n h k = 0 := by
  rw [chk_ok]
  rintro ⟨_, e⟩
  rw [frmOf, if_neg (by omega), if_neg (by omega), if_neg (by omega), if_neg (by omega), fitAll, fitN, hasB_0] at e
  cases e
end Go.Proofs.YtomociaidccfmaaGreatDoor

namespace Go.Proofs.YtomociaidccfmaaGreatDoor
open Go.RowKit

def keyS (n : Int) (h : Hd) : Bool := if h.kind = 3 ∧ ¬ n = 1 then (toI h.neg h.dig.data.toList h.exp).isSome else decide (h.kind = 5) || (decide (¬ n = 1) && (decide (h.kind = 6) || decide (h.kind = 2) || decide (h.kind = 1)))
set_option maxRecDepth 100000 in
set_option maxHeartbeats 1000000 in
theorem rKey_calls (h : Hd) (A : Option Addr) (m c : Nat) (n : Int) (w : World) : Calls Tryz.prog 39 #[.agg (h.cells (.slice A m c)), .int .i64 n] w (BolP (keyS n h) w) := by
  obtain ⟨R, hR⟩ : ∃ R, R = toI h.neg h.dig.data.toList h.exp := ⟨_, rfl⟩
  have HTo : Hid (∀ W, Calls Tryz.prog 38 #[.agg #[.bool h.neg, .string h.dig, .int .i64 h.exp]] W (ToP R W)) := Lib.hid (fun W => by rw [hR]; exact rToInt_p h.neg h.dig h.exp W)
  by_cases hk : h.kind = 3 ∧ ¬ n = 1
  · have HF : Hid (keyS n h = R.isSome) := Lib.hid (by rw [keyS, if_pos hk, hR])
    rw [HF.out]
    obtain ⟨h3, hn⟩ := hk
    clear hR HF
    simp only [Hd.cells]
    rw [h3]
    clear h3
    go_enter Tryz.func39, Tryz.ntmps39
    go_wp2_with fail
    refine (HTo.out _).mono ?_
    rintro o w1 ⟨rfl, hb1⟩
    have HB1 := Lib.hid (below_nx (below_a (Below.refl _ _) _) hb1)
    clear hb1
    go_wp2_with fail
    go_ret
    exact ⟨rfl, HB1.out⟩
  · have HF : Hid (keyS n h = (decide (h.kind = 5) || (decide (¬ n = 1) && (decide (h.kind = 6) || decide (h.kind = 2) || decide (h.kind = 1))))) := Lib.hid (by rw [keyS, if_neg hk])
    rw [HF.out]
    clear hR HF
    simp only [Hd.cells]
    go_enter Tryz.func39, Tryz.ntmps39
    go_wp2
    all_goals first
      | (exfalso; simp_all; done)
      | (go_ret; refine ⟨?_, below_a (Below.refl _ _) _⟩; show Ending.returned (Value.bool _) = Ending.returned (Value.bool _); congr 2; first | (simp_all; done) | (rw [Bool.eq_iff_iff]; simp; omega) | (simp_all; rw [Bool.eq_iff_iff]; simp; omega))
theorem toI_lt {neg : Bool} {l : List UInt8} {e : Int} : tK (toI neg l e) ≤ 18446744073709551615 := by
  rw [toI]
  split
  · rename_i h
    show dv l * 10 ^ e.toNat ≤ _
    have := h.2.2.2
    omega
  · decide
theorem frm_no {n : Int} (hn : n < 1 ∨ 4 < n) : frmOf n = ⟨0, 0, false, 0, 0, false⟩ := by
  rw [frmOf, if_neg (by omega), if_neg (by omega), if_neg (by omega), if_neg (by omega)]
def kS (n : Int) : Fo → Bool
  | .nil => true
  | .cons h _ r => keyS n h && kS n r
theorem kS_app (n : Int) : ∀ (f g : Fo), kS n (f.app g) = (kS n f && kS n g)
  | .nil, _ => rfl
  | .cons _ _ r, g => by simp only [Fo.app, kS]; rw [kS_app n r g, Bool.and_assoc]
theorem fitAll_app (F : Frm) : ∀ (f g : Fo), fitAll F (f.app g) = (fitAll F f && fitAll F g)
  | .nil, _ => rfl
  | .cons _ _ r, g => by simp only [Fo.app, fitAll]; rw [fitAll_app F r g]; simp only [Bool.and_assoc]
/-- A key that fits as a node is a key just if its kind is one of a key's. -/
theorem key_eq {n : Int} (h1 : 1 ≤ n) (h4 : n ≤ 4) {h : Hd} {k : Fo} (hf : fitN (frmOf n) h k = true) (hk : 1 ≤ h.kind ∧ h.kind ≤ 11) : keyS n h = hasB (frmOf n).keys h.kind := by
  have hn : n = 1 ∨ n = 2 ∨ n = 3 ∨ n = 4 := by omega
  have hc : h.kind = 1 ∨ h.kind = 2 ∨ h.kind = 3 ∨ h.kind = 4 ∨ h.kind = 5 ∨ h.kind = 6 ∨ h.kind = 7 ∨ h.kind = 8 ∨ h.kind = 9 ∨ h.kind = 10 ∨ h.kind = 11 := by omega
  by_cases h3 : h.kind = 3 ∧ ¬ n = 1
  · have hw : (toI h.neg h.dig.data.toList h.exp).isSome = true := by
      rw [fitN, Bool.and_eq_true, if_pos h3.1] at hf
      have := hf.2
      rw [fitNum] at this
      have hwh : (frmOf n).whole = true := by rcases hn with rfl | rfl | rfl | rfl <;> first | rfl | exact absurd rfl h3.2
      rw [hwh, Bool.not_true, Bool.false_or, Bool.and_eq_true] at this
      exact this.1
    rw [keyS, if_pos h3, hw, h3.1]
    rcases hn with rfl | rfl | rfl | rfl <;> first | decide | exact absurd rfl h3.2
  · rw [keyS, if_neg h3]
    rcases hc with hc | hc | hc | hc | hc | hc | hc | hc | hc | hc | hc <;> rw [hc] <;> rw [hc] at h3 <;> rcases hn with rfl | rfl | rfl | rfl <;> first | decide | (exfalso; exact h3 ⟨rfl, by decide⟩)
theorem keysF_fit {F : Frm} : ∀ {f : Fo}, fitAll F f = true → fitAll F (keysF f) = true
  | .nil, _ => rfl
  | .cons _ _ .nil, e => by simpa [keysF] using e
  | .cons h k (.cons _ _ r), e => by
    simp only [fitAll, keysF, Bool.and_eq_true] at e ⊢
    exact ⟨e.1, keysF_fit e.2.2⟩
theorem keysF_kinds : ∀ {f : Fo}, AllG Gk f → AllG Gk (keysF f)
  | .nil, _ => trivial
  | .cons _ _ .nil, e => by simpa [keysF] using e
  | .cons h k (.cons _ _ r), e => by
    simp only [keysF]
    exact ⟨e.1, e.2.1, keysF_kinds e.2.2.2.2⟩
theorem kS_eq {n : Int} (h1 : 1 ≤ n) (h4 : n ≤ 4) : ∀ {f : Fo}, fitAll (frmOf n) f = true → AllG Gk f → kS n f = keyAll (frmOf n).keys f
  | .nil, _, _ => rfl
  | .cons h k r, e, g => by
    simp only [fitAll, Bool.and_eq_true] at e
    rw [kS, keyAll, key_eq h1 h4 e.1.1 g.1, kS_eq h1 h4 e.2 g.2.2]
theorem keys_and {n : Int} (h1 : 1 ≤ n) (h4 : n ≤ 4) {f : Fo} (g : AllG Gk f) : (kS n (keysF f) && fitAll (frmOf n) f) = (keyAll (frmOf n).keys (keysF f) && fitAll (frmOf n) f) := by
  cases hf : fitAll (frmOf n) f with
  | false => rw [Bool.and_false, Bool.and_false]
  | true => rw [kS_eq h1 h4 (keysF_fit hf) (keysF_kinds g)]
end Go.Proofs.YtomociaidccfmaaGreatDoor
