/- The law TreeForms. -/
import Derived.Test.YtcofhgdfoamhpaaGreatDoorY3
namespace Go.Proofs.YtcofhgdfoamhpaaGreatDoor
open Go.RowKit

theorem hasB_lt {S m : Nat} {k : Int} (hS : S < 2 ^ m) (h : hasB S k = true) : k.toNat < m := by
  rcases Nat.lt_or_ge k.toNat m with h1 | h1
  · exact h1
  · exfalso
    rw [hasB, Nat.div_eq_of_lt (Nat.lt_of_lt_of_le hS (Nat.pow_le_pow_right (by decide) h1))] at h
    cases h
theorem hasB_0 (k : Int) : hasB 0 k = false := by rw [hasB, Nat.zero_div]; rfl
theorem hasB_32 {k : Int} (h : hasB 32 k = true) : k = 5 := by
  have h1 := hasB_lt (m := 6) (by decide) h
  obtain ⟨t, ht⟩ : ∃ t, t = k.toNat := ⟨_, rfl⟩
  rw [hasB, ← ht] at h
  rw [← ht] at h1
  have : t = 0 ∨ t = 1 ∨ t = 2 ∨ t = 3 ∨ t = 4 ∨ t = 5 := by omega
  rcases this with rfl | rfl | rfl | rfl | rfl | rfl <;> first | (exfalso; revert h; decide) | omega
theorem hasB_430 {k : Int} (h : hasB 430 k = true) : k = 1 ∨ k = 2 ∨ k = 3 ∨ k = 5 ∨ k = 7 ∨ k = 8 := by
  have h1 := hasB_lt (m := 9) (by decide) h
  obtain ⟨t, ht⟩ : ∃ t, t = k.toNat := ⟨_, rfl⟩
  rw [hasB, ← ht] at h
  rw [← ht] at h1
  have : t = 0 ∨ t = 1 ∨ t = 2 ∨ t = 3 ∨ t = 4 ∨ t = 5 ∨ t = 6 ∨ t = 7 ∨ t = 8 := by omega
  rcases this with rfl | rfl | rfl | rfl | rfl | rfl | rfl | rfl | rfl <;> first | (exfalso; revert h; decide) | omega
theorem key_110 : ∀ {f : Fo}, keyAll 32 f = true → keyAll 110 f = true
  | .nil, _ => rfl
  | .cons h k r, e => by
    rw [keyAll, Bool.and_eq_true] at e
    rw [keyAll, hasB_32 e.1, key_110 e.2]
    decide
def smH (h : Hd) : Bool := (toI h.neg h.dig.data.toList h.exp).isSome && !tN (toI h.neg h.dig.data.toList h.exp) && decide (tK (toI h.neg h.dig.data.toList h.exp) ≤ 9223372036854775808)
def smF : Fo → Bool
  | .nil => true
  | .cons h k r => (if h.kind = 3 then smH h else smF k) && smF r
def smN (h : Hd) (k : Fo) : Bool := if h.kind = 3 then smH h else smF k
theorem least_ge (a : Nat) : 16 ≤ leastW a := by
  rw [leastW]
  split
  · decide
  · split <;> decide
theorem fitN_dc {h : Hd} {k : Fo} (e : fitN (frmOf 3) h k = true) : fitN (frmOf 2) h k = true := by
  rw [fitN, Bool.and_eq_true] at e ⊢
  obtain ⟨e1, e2⟩ := e
  refine ⟨e1, ?_⟩
  by_cases h3 : h.kind = 3
  · rw [if_pos h3] at e2 ⊢; exact e2
  · rw [if_neg h3] at e2 ⊢
    by_cases h4 : h.kind = 4
    · rw [if_pos h4] at e2 ⊢
      have e3 : leastW ((widO h.u h.w).getD 0) = h.w := by
        have : fitFl (frmOf 3) h.u h.w = (leastW ((widO h.u h.w).getD 0) == h.w) := rfl
        rw [this] at e2
        exact beq_iff_eq.1 e2
      have e4 : fitFl (frmOf 2) h.u h.w = decide ((16 : Int) ≤ h.w) := rfl
      rw [e4, ← e3]
      exact decide_eq_true (least_ge _)
    · rw [if_neg h4] at e2 ⊢
      exact e2
theorem fitAll_dc : ∀ {f : Fo}, fitAll (frmOf 3) f = true → fitAll (frmOf 2) f = true
  | .nil, _ => rfl
  | .cons h k r, e => by
    rw [fitAll, Bool.and_eq_true, Bool.and_eq_true] at e
    rw [fitAll, fitN_dc e.1.1, fitAll_dc e.1.2, fitAll_dc e.2]
    rfl
theorem num_leaf {h : Hd} {k : Fo} (h3 : h.kind = 3) (e : okN h k = true) : k = .nil := by
  rw [okN, if_neg (by omega), if_neg (by omega), if_pos h3, o_isNum, Bool.and_eq_true, j_isNum, Bool.and_eq_true] at e
  have := beq_iff_eq.1 e.1.2
  cases k with
  | nil => rfl
  | cons _ _ _ => simp only [Fo.len] at this; omega
theorem fitN_j {n : Int} (hn : n = 2 ∨ n = 3 ∨ n = 4) {h : Hd} {k : Fo} (e : fitN (frmOf 1) h k = true) (hs : h.kind = 3 → smH h = true) : fitN (frmOf n) h k = true := by
  rw [fitN, Bool.and_eq_true] at e
  obtain ⟨e1, e2⟩ := e
  have hk := hasB_430 e1
  have hb : hasB (frmOf n).kinds h.kind = true := by
    rcases hn with rfl | rfl | rfl <;> rcases hk with hk | hk | hk | hk | hk | hk <;> rw [hk] <;> decide
  rw [fitN, hb, Bool.true_and]
  by_cases h3 : h.kind = 3
  · rw [if_pos h3]
    have := hs h3
    rw [smH, Bool.and_eq_true, Bool.and_eq_true] at this
    rw [fitNum, this.1.1, this.1.2]
    simp
  · rw [if_neg h3, if_neg (by omega)]
    by_cases h8 : h.kind = 8
    · rw [if_pos h8]
      rw [if_neg h3, if_neg (by omega), if_pos h8] at e2
      have e3 : keyAll 32 (keysF k) = true := e2
      rcases hn with rfl | rfl | rfl <;> exact key_110 e3
    · rw [if_neg h8]
theorem fitAll_j {n : Int} (hn : n = 2 ∨ n = 3 ∨ n = 4) : ∀ {f : Fo}, okAll okN f = true → fitAll (frmOf 1) f = true → smF f = true → fitAll (frmOf n) f = true
  | .nil, _, _, _ => rfl
  | .cons h k r, o, e, s => by
    rw [fitAll, Bool.and_eq_true, Bool.and_eq_true] at e
    rw [okAll, Bool.and_eq_true, Bool.and_eq_true, Bool.and_eq_true] at o
    rw [smF, Bool.and_eq_true] at s
    have hk : fitAll (frmOf n) k = true := by
      by_cases h3 : h.kind = 3
      · rw [num_leaf h3 o.1.1.2]; rfl
      · rw [if_neg h3] at s
        exact fitAll_j hn o.1.2 e.1.2 s.1
    rw [fitAll, fitN_j hn e.1.1 (fun h3 => by rw [if_pos h3] at s; exact s.1), hk, fitAll_j hn o.2 e.2 s.2]
    rfl
theorem chk_ok {n : Int} {h : Hd} {k : Fo} : chk n h k = 0 ↔ rgt h k = true ∧ fitAll (frmOf n) (.cons h k .nil) = true := by
  rw [chk]
  cases rgt h k <;> cases fitAll (frmOf n) (.cons h k .nil) <;> simp
theorem forms_dc {h : Hd} {k : Fo} (e : chk 3 h k = 0) : chk 2 h k = 0 := by
  rw [chk_ok] at e ⊢
  exact ⟨e.1, fitAll_dc e.2⟩
theorem forms_j {n : Int} (hn : n = 2 ∨ n = 3 ∨ n = 4) {h : Hd} {k : Fo} (e : chk 1 h k = 0) (s : smN h k = true) : chk n h k = 0 := by
  rw [chk_ok] at e ⊢
  have o := e.1
  rw [rgt, rightR, Bool.and_eq_true] at o
  exact ⟨e.1, fitAll_j hn o.2 e.2 (by rw [smF, show (if h.kind = 3 then smH h else smF k) = true from s]; rfl)⟩
theorem forms_no {n : Int} (hn : n < 1 ∨ 4 < n) {h : Hd} {k : Fo} : ¬ chk n h k = 0 := by
  rw [chk_ok]
  rintro ⟨_, e⟩
  rw [frmOf, if_neg (by omega), if_neg (by omega), if_neg (by omega), if_neg (by omega), fitAll, fitN, hasB_0] at e
  cases e
set_option maxRecDepth 100000 in
set_option maxHeartbeats 1000000 in
theorem small_any (n : Nat) : ∀ (k : Fo) (h : Hd) (v : Value) (w : World), k.cnt < n → Tq w → Kd An w v k →
    Calls Tryz.prog 22 #[.agg (h.cells v)] w (BolP (smN h k) w) := by
  induction n with
  | zero => intro k h v w hn; omega
  | succ n ih =>
    intro k h v w hn hT hk
    obtain ⟨A, c, rfl, hc, hl, hL⟩ := hk.form
    have IH := Lib.hid ih
    have HL := Lib.hid hL
    have HN := Lib.hid hn
    have HT := Lib.hid hT
    clear ih hL hk hn hT
    by_cases h3 : h.kind = 3
    · obtain ⟨R, hR⟩ : ∃ R, R = toI h.neg h.dig.data.toList h.exp := ⟨_, rfl⟩
      have HTo : Hid (∀ W, ErrR W → Calls Tryz.prog 33 #[.agg #[.bool h.neg, .string h.dig, .int .i64 h.exp]] W (ToP R W)) := Lib.hid (fun W e => by rw [hR]; exact pToInt_calls h.neg h.dig h.exp W e)
      have HF : Hid (smN h k = (R.isSome && !tN R && decide (tK R ≤ 9223372036854775808))) := Lib.hid (by rw [smN, if_pos h3, smH, hR])
      clear hR
      simp only [Hd.cells]
      rw [h3]
      go_enter Tryz.func22, Tryz.ntmps22
      go_wp2_with fail
      refine (HTo.out _ (HT.out.1.2.below (below_a (Below.refl _ _) _))).mono ?_
      rintro o w1 ⟨rfl, hb1⟩
      have HB1 := Lib.hid (below_nx (below_a (Below.refl _ _) _) hb1)
      clear hb1
      go_wp2
      all_goals go_ret
      all_goals refine ⟨?_, HB1.out⟩
      all_goals rw [HF.out]
      all_goals (show Ending.returned (Value.bool _) = Ending.returned (Value.bool _); congr 2; simp_all; try omega)
    · have HF : Hid (smN h k = smF k) := Lib.hid (by rw [smN, if_neg h3])
      rw [HF.out]
      clear HF
      have hq3 : (h.kind == 3) = false := beq_eq_false_iff_ne.2 h3
      simp only [Hd.cells]
      go_enter Tryz.func22, Tryz.ntmps22
      have HB0 := Lib.hid (Nx.new w h (.slice A k.len c))
      go_wp2_with fail
      go_loopw [6] (fun i wr => ∃ j : Nat, i = .int .i64 j ∧ j ≤ k.len ∧ smF k = smF (k.drop j) ∧ Below w.heap.size w wr ∧ Nx wr w.heap.size h (.slice A k.len c)) (fun i _ => k.len - (intOf i).toNat)
      case atStart => exact ⟨0, rfl, Nat.zero_le _, rfl, below_a (Below.refl _ _) _, HB0.out⟩
      case round =>
        obtain ⟨j, rfl, hj, hsd, hb, hbx⟩ := hrel
        have HB := Lib.hid hb
        have HX := Lib.hid hbx
        have HS := Lib.hid hsd
        have c8 := hbx.c8
        clear hb hbx HB0 hsd
        by_cases hgo : j < k.len
        · obtain ⟨B, o, rfl, hB, _, hLi⟩ := HL.out (by omega)
          obtain ⟨h', k', r, hd⟩ := drop_cons hgo
          have hLj := lies_drop j hLi
          rw [hd] at hLj
          obtain ⟨⟨v', hc', hk'⟩, hu', _⟩ := lies_cons.1 hLj
          have HK' := Lib.hid hk'
          have HD := Lib.hid hd
          obtain ⟨d0, d1, d2, d3, d4, d5, d6, d7, d8⟩ := (hc'.below HB.out).nine
          obtain ⟨Q, hQ⟩ : ∃ Q, Q = smN h' k' := ⟨_, rfl⟩
          have HQ := Lib.hid hQ
          have HE : Hid (smF k = (Q && smF r)) := Lib.hid (by rw [HS.out, hd, smF, hQ, smN])
          clear hLi hLj hc' hk' hd hQ
          go_wp2_with fail
          refine (IH.out k' h' v' _ (by have := drop_cnt j k; rw [HD.out, Fo.cnt] at this; have := HN.out; omega) (HT.out.below HB.out) (HK'.out.below HB.out)).mono ?_
          rintro e w1 ⟨rfl, hb1⟩
          rw [← HQ.out]
          have HB1 := Lib.hid (below_nx HB.out hb1)
          have HX1 := Lib.hid (HX.out.below hb1)
          clear hb1 d0 d1 d2 d3 d4 d5 d6 d7 d8 c8
          cases Q with
          | true =>
            go_wp2_with fail
            go_roundw
            case rel => exact ⟨j + 1, by go_num, hgo, by rw [HE.out, drop_succ j k HD.out, Bool.true_and], HB1.out, HX1.out⟩
            case measure => simp [intOf]; omega
          | false =>
            go_wp2_with fail
            go_ret
            refine ⟨?_, HB1.out⟩
            rw [HE.out]
            rfl
        · go_wp2_with fail
          go_ret
          refine ⟨?_, HB.out⟩
          rw [HS.out, show k.drop j = .nil by rw [show j = k.len by omega, drop_end]]
          rfl
theorem small_calls (k : Fo) (h : Hd) (v : Value) (w : World) (hT : Tq w) (hk : Kd An w v k) : Calls Tryz.prog 22 #[.agg (h.cells v)] w (BolP (smN h k) w) := small_any (k.cnt + 1) k h v w (by omega) hT hk
set_option maxRecDepth 100000 in
set_option maxHeartbeats 2000000 in
theorem forms_calls (h : Hd) (k : Fo) (v : Value) (w : World) (hT : Tq w) (hk : Kd An w v k) (hu : h.u < 18446744073709551616) : Calls Tryz.prog 6 #[.agg (h.cells v)] w (BolP true w) := by
  obtain ⟨A, c, rfl, _, _, _⟩ := hk.form
  have HT := Lib.hid hT
  have HK := Lib.hid hk
  have HU := Lib.hid hu
  clear hT hk hu
  simp only [Hd.cells]
  go_enter Tryz.func6, Tryz.ntmps6
  go_wp2_with fail
  refine (shown_calls _ (HT.out.below (below_a (Below.refl _ _) _))).mono ?_
  rintro o w1 ⟨rfl, hb1⟩
  have HX1 := Lib.hid ((Nx.new w h (.slice A k.len c)).below hb1)
  have HB1 := Lib.hid (below_nx (below_a (Below.refl _ _) _) hb1)
  clear hb1
  obtain ⟨q0, q1, q2, q3, q4, q5, q6, q7, q8⟩ := HX1.out.nine
  have hl1 := HX1.out.lt
  go_wp2_with fail
  refine (Few_calls k h _ _ (HK.out.below HB1.out) HU.out).mono ?_
  rintro o w2 ⟨v2, rfl, hk2, hb2⟩
  obtain ⟨h2, hh2⟩ : ∃ h2, h2 = cutH h := ⟨_, rfl⟩
  obtain ⟨K, hKK⟩ : ∃ K, K = fewK k := ⟨_, rfl⟩
  rw [← hh2]
  rw [← hKK] at hk2
  have HD : Hid (K.deep ≤ 17 ∧ AllG Gl K ∧ K.len ≤ 40 ∧ h2.u < 18446744073709551616) := Lib.hid (by rw [hKK, hh2]; exact ⟨few_deep k, few_gl k, few_len k, HU.out⟩)
  have HG : Hid (AllG Gl (.cons h2 K .nil)) := Lib.hid (by
    have h1 : AllG Gl (.cons h2 K .nil) := allG_cons (gl_of HD.out.2.2.1) HD.out.2.1 trivial
    exact h1)
  have HX2 := Lib.hid (HX1.out.below hb2)
  have HB2 := Lib.hid (below_nx HB1.out hb2)
  have HKd := Lib.hid (hk2.mono (Q := fun b => w.heap.size < b) fun b hb _ => Nat.lt_of_lt_of_le hl1 hb)
  obtain ⟨A2, c2, rfl, _, _, _⟩ := hk2.form
  clear hk2 hb2 q0 q1 q2 q3 q4 q5 q6 q7 q8 HX1 HB1 hh2 hKK
  simp only [Hd.cells]
  have x := fun i => Bx.f HX2.out i
  have x0 := x 0
  have x1 := x 1
  have x2 := x 2
  have x3 := x 3
  have x4 := x 4
  have x5 := x 5
  have x6 := x 6
  have x7 := x 7
  have x8 := x 8
  clear x
  obtain ⟨y0, y1, y2, y3, y4, y5, y6, y7, y8⟩ := HX2.out.nine
  have hl2 := HX2.out.lt
  go_wp2_with fail
  obtain ⟨W3, hW3⟩ : ∃ W3, W3 = setN w2 w.heap.size h2 (.slice A2 K.len c2) := ⟨_, rfl⟩
  have HX : Hid (Nx W3 w.heap.size h2 (.slice A2 K.len c2)) := Lib.hid (by rw [hW3]; exact HX2.out.setN _ _)
  have HB : Hid (Below w.heap.size w W3) := Lib.hid (by rw [hW3]; exact below_setN HB2.out (Nat.le_refl _) _ _)
  have HKK : Hid (Kd An W3 (.slice A2 K.len c2) K) := Lib.hid (by
    rw [hW3]
    exact (HKd.out.kept (by rw [size_setN]; exact Nat.le_refl _) fun b hb _ => setN_other (Nat.ne_of_gt hb)).mono fun _ _ _ => trivial)
  simp only [setN] at hW3
  rw [← hW3]
  clear hW3 x0 x1 x2 x3 x4 x5 x6 x7 x8 y0 y1 y2 y3 y4 y5 y6 y7 y8 HX2 HB2 HKd
  refine (Check_calls 1 K h2 _ _ (HT.out.below HB.out) HKK.out HD.out.2.2.2 (by have := HD.out.1; omega) HG.out).mono ?_
  rintro o w4 ⟨rfl, hb4⟩
  replace HX := Lib.hid (HX.out.below hb4)
  replace HB := Lib.hid (below_nx HB.out hb4)
  replace HKK := Lib.hid (HKK.out.below hb4)
  clear hb4
  obtain ⟨y0, y1, y2, y3, y4, y5, y6, y7, y8⟩ := HX.out.nine
  obtain ⟨ej, hej⟩ : ∃ ej, ej = chk 1 h2 K := ⟨_, rfl⟩
  rw [← hej]
  have Hej := Lib.hid hej
  clear hej
  go_wp2_with fail
  refine (Check_calls 2 K h2 _ _ (HT.out.below HB.out) HKK.out HD.out.2.2.2 (by have := HD.out.1; omega) HG.out).mono ?_
  rintro o w4 ⟨rfl, hb4⟩
  replace HX := Lib.hid (HX.out.below hb4)
  replace HB := Lib.hid (below_nx HB.out hb4)
  replace HKK := Lib.hid (HKK.out.below hb4)
  clear y0 y1 y2 y3 y4 y5 y6 y7 y8
  clear hb4
  obtain ⟨y0, y1, y2, y3, y4, y5, y6, y7, y8⟩ := HX.out.nine
  obtain ⟨ec, hec⟩ : ∃ ec, ec = chk 2 h2 K := ⟨_, rfl⟩
  rw [← hec]
  have Hec := Lib.hid hec
  clear hec
  go_wp2_with fail
  refine (Check_calls 3 K h2 _ _ (HT.out.below HB.out) HKK.out HD.out.2.2.2 (by have := HD.out.1; omega) HG.out).mono ?_
  rintro o w4 ⟨rfl, hb4⟩
  replace HX := Lib.hid (HX.out.below hb4)
  replace HB := Lib.hid (below_nx HB.out hb4)
  replace HKK := Lib.hid (HKK.out.below hb4)
  clear y0 y1 y2 y3 y4 y5 y6 y7 y8
  clear hb4
  obtain ⟨y0, y1, y2, y3, y4, y5, y6, y7, y8⟩ := HX.out.nine
  obtain ⟨ed, hed⟩ : ∃ ed, ed = chk 3 h2 K := ⟨_, rfl⟩
  rw [← hed]
  have Hed := Lib.hid hed
  clear hed
  go_wp2_with fail
  refine (Check_calls 4 K h2 _ _ (HT.out.below HB.out) HKK.out HD.out.2.2.2 (by have := HD.out.1; omega) HG.out).mono ?_
  rintro o w4 ⟨rfl, hb4⟩
  replace HX := Lib.hid (HX.out.below hb4)
  replace HB := Lib.hid (below_nx HB.out hb4)
  replace HKK := Lib.hid (HKK.out.below hb4)
  clear y0 y1 y2 y3 y4 y5 y6 y7 y8
  clear hb4
  obtain ⟨y0, y1, y2, y3, y4, y5, y6, y7, y8⟩ := HX.out.nine
  obtain ⟨em, hem⟩ : ∃ em, em = chk 4 h2 K := ⟨_, rfl⟩
  rw [← hem]
  have Hem := Lib.hid hem
  clear hem
  have HF1 : Hid (ed = 0 → ec = 0) := Lib.hid (fun e => by rw [Hec.out]; exact forms_dc (by rw [← Hed.out]; exact e))
  obtain ⟨S, hS⟩ : ∃ S, S = smN h2 K := ⟨_, rfl⟩
  have HSm : Hid (∀ W, Tq W → Kd An W (.slice A2 K.len c2) K → Calls Tryz.prog 22 #[.agg (h2.cells (.slice A2 K.len c2))] W (BolP S W)) := Lib.hid (fun W t q => by rw [hS]; exact small_calls K h2 _ W t q)
  have HF2 : Hid (ej = 0 → S = true → ec = 0 ∧ ed = 0 ∧ em = 0) := Lib.hid (fun e s => by
    have e' : chk 1 h2 K = 0 := by rw [← Hej.out]; exact e
    have s' : smN h2 K = true := by rw [← hS]; exact s
    rw [Hec.out, Hed.out, Hem.out]
    exact ⟨forms_j (.inl rfl) e' s', forms_j (.inr (.inl rfl)) e' s', forms_j (.inr (.inr rfl)) e' s'⟩)
  clear hS Hej Hec Hed Hem
  simp only [Hd.cells] at HSm
  by_cases hd : ed = 0
  · have hc0 : ec = 0 := HF1.out hd
    rw [hd, hc0] at HF2 ⊢
    clear HF1 hd hc0
    by_cases hj : ej = 0
    · rw [hj] at HF2 ⊢
      clear hj
      go_wp2_with fail
      refine (HSm.out _ (HT.out.below HB.out) HKK.out).mono ?_
      rintro o w4 ⟨rfl, hb4⟩
      replace HX := Lib.hid (HX.out.below hb4)
      replace HB := Lib.hid (below_nx HB.out hb4)
      replace HKK := Lib.hid (HKK.out.below hb4)
      clear y0 y1 y2 y3 y4 y5 y6 y7 y8 hb4
      obtain ⟨y0, y1, y2, y3, y4, y5, y6, y7, y8⟩ := HX.out.nine
      cases S with
      | true =>
        have hm : em = 0 := (HF2.out (by first | rfl | trivial) (by first | rfl | trivial)).2.2
        rw [hm]
        clear hm HF2
        go_wp2_with fail
        refine (Check_calls 0 K h2 _ _ (HT.out.below HB.out) HKK.out HD.out.2.2.2 (by have := HD.out.1; omega) HG.out).mono ?_
        rintro o w4 ⟨rfl, hb4⟩
        replace HX := Lib.hid (HX.out.below hb4)
        replace HB := Lib.hid (below_nx HB.out hb4)
        replace HKK := Lib.hid (HKK.out.below hb4)
        clear y0 y1 y2 y3 y4 y5 y6 y7 y8
        clear hb4
        obtain ⟨y0, y1, y2, y3, y4, y5, y6, y7, y8⟩ := HX.out.nine
        obtain ⟨e0, he0⟩ : ∃ e0, e0 = chk 0 h2 K := ⟨_, rfl⟩
        rw [← he0]
        have He0 := Lib.hid he0
        clear he0

        have hn0 : ¬ e0 = 0 := by rw [He0.out]; exact forms_no (by omega)
        clear He0
        go_wp2_with fail
        refine (Check_calls 5 K h2 _ _ (HT.out.below HB.out) HKK.out HD.out.2.2.2 (by have := HD.out.1; omega) HG.out).mono ?_
        rintro o w4 ⟨rfl, hb4⟩
        replace HX := Lib.hid (HX.out.below hb4)
        replace HB := Lib.hid (below_nx HB.out hb4)
        replace HKK := Lib.hid (HKK.out.below hb4)
        clear y0 y1 y2 y3 y4 y5 y6 y7 y8
        clear hb4
        obtain ⟨y0, y1, y2, y3, y4, y5, y6, y7, y8⟩ := HX.out.nine
        obtain ⟨e5, he5⟩ : ∃ e5, e5 = chk 5 h2 K := ⟨_, rfl⟩
        rw [← he5]
        have He5 := Lib.hid he5
        clear he5

        have hn5 : ¬ e5 = 0 := by rw [He5.out]; exact forms_no (by omega)
        clear He5 y0 y1 y2 y3 y4 y5 y6 y7 y8
        go_wp2_with fail
        go_ret
        exact ⟨by first | rfl | simp [hn0, hn5], HB.out⟩
      | false =>
        clear HF2
        go_wp2_with fail
        refine (Check_calls 0 K h2 _ _ (HT.out.below HB.out) HKK.out HD.out.2.2.2 (by have := HD.out.1; omega) HG.out).mono ?_
        rintro o w4 ⟨rfl, hb4⟩
        replace HX := Lib.hid (HX.out.below hb4)
        replace HB := Lib.hid (below_nx HB.out hb4)
        replace HKK := Lib.hid (HKK.out.below hb4)
        clear y0 y1 y2 y3 y4 y5 y6 y7 y8
        clear hb4
        obtain ⟨y0, y1, y2, y3, y4, y5, y6, y7, y8⟩ := HX.out.nine
        obtain ⟨e0, he0⟩ : ∃ e0, e0 = chk 0 h2 K := ⟨_, rfl⟩
        rw [← he0]
        have He0 := Lib.hid he0
        clear he0

        have hn0 : ¬ e0 = 0 := by rw [He0.out]; exact forms_no (by omega)
        clear He0
        go_wp2_with fail
        refine (Check_calls 5 K h2 _ _ (HT.out.below HB.out) HKK.out HD.out.2.2.2 (by have := HD.out.1; omega) HG.out).mono ?_
        rintro o w4 ⟨rfl, hb4⟩
        replace HX := Lib.hid (HX.out.below hb4)
        replace HB := Lib.hid (below_nx HB.out hb4)
        replace HKK := Lib.hid (HKK.out.below hb4)
        clear y0 y1 y2 y3 y4 y5 y6 y7 y8
        clear hb4
        obtain ⟨y0, y1, y2, y3, y4, y5, y6, y7, y8⟩ := HX.out.nine
        obtain ⟨e5, he5⟩ : ∃ e5, e5 = chk 5 h2 K := ⟨_, rfl⟩
        rw [← he5]
        have He5 := Lib.hid he5
        clear he5

        have hn5 : ¬ e5 = 0 := by rw [He5.out]; exact forms_no (by omega)
        clear He5 y0 y1 y2 y3 y4 y5 y6 y7 y8
        go_wp2_with fail
        go_ret
        exact ⟨by first | rfl | simp [hn0, hn5], HB.out⟩
    · clear HF2
      go_wp2_with fail
      refine (Check_calls 0 K h2 _ _ (HT.out.below HB.out) HKK.out HD.out.2.2.2 (by have := HD.out.1; omega) HG.out).mono ?_
      rintro o w4 ⟨rfl, hb4⟩
      replace HX := Lib.hid (HX.out.below hb4)
      replace HB := Lib.hid (below_nx HB.out hb4)
      replace HKK := Lib.hid (HKK.out.below hb4)
      clear y0 y1 y2 y3 y4 y5 y6 y7 y8
      clear hb4
      obtain ⟨y0, y1, y2, y3, y4, y5, y6, y7, y8⟩ := HX.out.nine
      obtain ⟨e0, he0⟩ : ∃ e0, e0 = chk 0 h2 K := ⟨_, rfl⟩
      rw [← he0]
      have He0 := Lib.hid he0
      clear he0

      have hn0 : ¬ e0 = 0 := by rw [He0.out]; exact forms_no (by omega)
      clear He0
      go_wp2_with fail
      refine (Check_calls 5 K h2 _ _ (HT.out.below HB.out) HKK.out HD.out.2.2.2 (by have := HD.out.1; omega) HG.out).mono ?_
      rintro o w4 ⟨rfl, hb4⟩
      replace HX := Lib.hid (HX.out.below hb4)
      replace HB := Lib.hid (below_nx HB.out hb4)
      replace HKK := Lib.hid (HKK.out.below hb4)
      clear y0 y1 y2 y3 y4 y5 y6 y7 y8
      clear hb4
      obtain ⟨y0, y1, y2, y3, y4, y5, y6, y7, y8⟩ := HX.out.nine
      obtain ⟨e5, he5⟩ : ∃ e5, e5 = chk 5 h2 K := ⟨_, rfl⟩
      rw [← he5]
      have He5 := Lib.hid he5
      clear he5

      have hn5 : ¬ e5 = 0 := by rw [He5.out]; exact forms_no (by omega)
      clear He5 y0 y1 y2 y3 y4 y5 y6 y7 y8
      go_wp2_with fail
      go_ret
      exact ⟨by first | rfl | simp [hn0, hn5], HB.out⟩
  · clear HF1
    by_cases hj : ej = 0
    · rw [hj] at HF2 ⊢
      clear hj
      go_wp2_with fail
      refine (HSm.out _ (HT.out.below HB.out) HKK.out).mono ?_
      rintro o w4 ⟨rfl, hb4⟩
      replace HX := Lib.hid (HX.out.below hb4)
      replace HB := Lib.hid (below_nx HB.out hb4)
      replace HKK := Lib.hid (HKK.out.below hb4)
      clear y0 y1 y2 y3 y4 y5 y6 y7 y8 hb4
      obtain ⟨y0, y1, y2, y3, y4, y5, y6, y7, y8⟩ := HX.out.nine
      cases S with
      | true =>
        exact absurd (HF2.out (by first | rfl | trivial) (by first | rfl | trivial)).2.1 hd
      | false =>
        clear HF2
        go_wp2_with fail
        refine (Check_calls 0 K h2 _ _ (HT.out.below HB.out) HKK.out HD.out.2.2.2 (by have := HD.out.1; omega) HG.out).mono ?_
        rintro o w4 ⟨rfl, hb4⟩
        replace HX := Lib.hid (HX.out.below hb4)
        replace HB := Lib.hid (below_nx HB.out hb4)
        replace HKK := Lib.hid (HKK.out.below hb4)
        clear y0 y1 y2 y3 y4 y5 y6 y7 y8
        clear hb4
        obtain ⟨y0, y1, y2, y3, y4, y5, y6, y7, y8⟩ := HX.out.nine
        obtain ⟨e0, he0⟩ : ∃ e0, e0 = chk 0 h2 K := ⟨_, rfl⟩
        rw [← he0]
        have He0 := Lib.hid he0
        clear he0

        have hn0 : ¬ e0 = 0 := by rw [He0.out]; exact forms_no (by omega)
        clear He0
        go_wp2_with fail
        refine (Check_calls 5 K h2 _ _ (HT.out.below HB.out) HKK.out HD.out.2.2.2 (by have := HD.out.1; omega) HG.out).mono ?_
        rintro o w4 ⟨rfl, hb4⟩
        replace HX := Lib.hid (HX.out.below hb4)
        replace HB := Lib.hid (below_nx HB.out hb4)
        replace HKK := Lib.hid (HKK.out.below hb4)
        clear y0 y1 y2 y3 y4 y5 y6 y7 y8
        clear hb4
        obtain ⟨y0, y1, y2, y3, y4, y5, y6, y7, y8⟩ := HX.out.nine
        obtain ⟨e5, he5⟩ : ∃ e5, e5 = chk 5 h2 K := ⟨_, rfl⟩
        rw [← he5]
        have He5 := Lib.hid he5
        clear he5

        have hn5 : ¬ e5 = 0 := by rw [He5.out]; exact forms_no (by omega)
        clear He5 y0 y1 y2 y3 y4 y5 y6 y7 y8
        go_wp2_with fail
        go_ret
        exact ⟨by first | rfl | simp [hn0, hn5], HB.out⟩
    · clear HF2
      go_wp2_with fail
      refine (Check_calls 0 K h2 _ _ (HT.out.below HB.out) HKK.out HD.out.2.2.2 (by have := HD.out.1; omega) HG.out).mono ?_
      rintro o w4 ⟨rfl, hb4⟩
      replace HX := Lib.hid (HX.out.below hb4)
      replace HB := Lib.hid (below_nx HB.out hb4)
      replace HKK := Lib.hid (HKK.out.below hb4)
      clear y0 y1 y2 y3 y4 y5 y6 y7 y8
      clear hb4
      obtain ⟨y0, y1, y2, y3, y4, y5, y6, y7, y8⟩ := HX.out.nine
      obtain ⟨e0, he0⟩ : ∃ e0, e0 = chk 0 h2 K := ⟨_, rfl⟩
      rw [← he0]
      have He0 := Lib.hid he0
      clear he0

      have hn0 : ¬ e0 = 0 := by rw [He0.out]; exact forms_no (by omega)
      clear He0
      go_wp2_with fail
      refine (Check_calls 5 K h2 _ _ (HT.out.below HB.out) HKK.out HD.out.2.2.2 (by have := HD.out.1; omega) HG.out).mono ?_
      rintro o w4 ⟨rfl, hb4⟩
      replace HX := Lib.hid (HX.out.below hb4)
      replace HB := Lib.hid (below_nx HB.out hb4)
      replace HKK := Lib.hid (HKK.out.below hb4)
      clear y0 y1 y2 y3 y4 y5 y6 y7 y8
      clear hb4
      obtain ⟨y0, y1, y2, y3, y4, y5, y6, y7, y8⟩ := HX.out.nine
      obtain ⟨e5, he5⟩ : ∃ e5, e5 = chk 5 h2 K := ⟨_, rfl⟩
      rw [← he5]
      have He5 := Lib.hid he5
      clear he5

      have hn5 : ¬ e5 = 0 := by rw [He5.out]; exact forms_no (by omega)
      clear He5 y0 y1 y2 y3 y4 y5 y6 y7 y8
      go_wp2_with fail
      go_ret
      exact ⟨by first | rfl | simp [hn0, hn5], HB.out⟩
end Go.Proofs.YtcofhgdfoamhpaaGreatDoor
