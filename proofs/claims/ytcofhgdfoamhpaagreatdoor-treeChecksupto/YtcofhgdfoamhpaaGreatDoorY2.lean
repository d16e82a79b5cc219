/- The law TreeWraps. -/
import Derived.Test.YtcofhgdfoamhpaaGreatDoorMr
namespace Go.Proofs.YtcofhgdfoamhpaaGreatDoor
open Go.RowKit

theorem wrap_ge {x : Nat} (h : 300 ≤ wrap64 (x : Int)) : 300 ≤ x := by
  rcases Nat.lt_or_ge x 300 with h1 | h1
  · exfalso
    have : wrap64 (x : Int) = (x : Int) := by unfold wrap64; omega
    omega
  · exact h1
theorem okN_arr (k : Fo) : okN arrH k = true := by
  rw [okN, if_neg (by decide), if_neg (by decide), if_neg (by decide), if_neg (by decide), if_neg (by decide), if_neg (by decide), if_pos (by decide)]
  simp [o_isArray, j_isArray, sameH, arrH]
theorem okAll_arr (k : Fo) : okAll okN (.cons arrH k .nil) = okAll okN k := by
  rw [okAll, okN_arr]
  simp [okAll, arrH]
theorem fitN_arr {n : Int} (h1 : 1 ≤ n) (h4 : n ≤ 4) (k : Fo) : fitN (frmOf n) arrH k = true := by
  have : n = 1 ∨ n = 2 ∨ n = 3 ∨ n = 4 := by omega
  rcases this with rfl | rfl | rfl | rfl <;> simp [fitN, frmOf, arrH, hasB]
theorem fitAll_arr {n : Int} (h1 : 1 ≤ n) (h4 : n ≤ 4) (k : Fo) : fitAll (frmOf n) (.cons arrH k .nil) = fitAll (frmOf n) k := by
  rw [fitAll, fitN_arr h1 h4]
  simp [fitAll]
theorem wraps_far {n : Int} {h : Hd} {k : Fo} (hf : 16 ≤ k.deep + 1 ∨ 300 ≤ 1 + k.cnt) : chk n arrH (.cons h k .nil) = 60 := by
  have : rgt arrH (.cons h k .nil) = false := by
    rw [rgt, rightR, decide_eq_false (by simp only [Fo.cnt, Fo.deep]; omega), Bool.false_and]
  rw [chk, this]
  rfl
theorem wraps_near {n : Int} {h : Hd} {k : Fo} (h1 : 1 ≤ n) (h4 : n ≤ 4) (hd : k.deep + 1 < 16) (hc : wrap64 (1 + (k.cnt : Int)) < 300) : chk n h k = chk n arrH (.cons h k .nil) := by
  have hr : rgt arrH (.cons h k .nil) = rgt h k := by
    rw [rgt, rgt, rightR, rightR, okAll_arr]
    rcases Nat.lt_or_ge (1 + k.cnt) 300 with hs | hs
    · rw [decide_eq_true (by simp only [Fo.cnt, Fo.deep]; omega), decide_eq_true (by omega)]
    · have hb : 9223372036854775808 ≤ 1 + k.cnt := by
        apply Decidable.byContradiction
        intro hn
        have : wrap64 (1 + (k.cnt : Int)) = 1 + (k.cnt : Int) := by unfold wrap64; omega
        omega
      rw [decide_eq_false (by simp only [Fo.cnt, Fo.deep]; omega), decide_eq_false (by omega)]
  rw [chk, chk, hr, fitAll_arr h1 h4]
theorem wrap_ge' {c : Nat} {X : Int} (hX : X = wrap64 (1 + (c : Int))) (h : 300 ≤ X) : 300 ≤ 1 + c := by
  refine wrap_ge ?_
  rw [show ((1 + c : Nat) : Int) = 1 + (c : Int) by omega, ← hX]
  exact h
theorem wraps_fin {n a b X : Int} {h : Hd} {k : Fo} {d : Nat} (ha : a = chk n h k) (hb : b = chk n arrH (.cons h k .nil)) (hd : d = k.deep + 1) (hX : X = wrap64 (1 + (k.cnt : Int))) (h1 : 1 ≤ n) (h4 : n ≤ 4) (g1 : d < 16) (g2 : X < 300) : a = b := by
  rw [ha, hb]
  exact wraps_near h1 h4 (by omega) (by rw [← hX]; exact g2)
set_option maxRecDepth 100000 in
set_option maxHeartbeats 1000000 in
theorem wraps_calls (h : Hd) (k : Fo) (v : Value) (n : Int) (w : World) (hT : Tq w) (hk : Kd An w v k) (hu : h.u < 18446744073709551616) : Calls Tryz.prog 9 #[.agg (h.cells v), .int .i64 n] w (BolP true w) := by
  obtain ⟨A, c, rfl, _, _, _⟩ := hk.form
  have HT := Lib.hid hT
  have HK := Lib.hid hk
  have HU := Lib.hid hu
  clear hT hk hu
  simp only [Hd.cells]
  go_enter Tryz.func9, Tryz.ntmps9
  go_wp2_with fail
  refine (shown_calls _ (HT.out.below (below_a (Below.refl _ _) _))).mono ?_
  rintro o w1 ⟨rfl, hb1⟩
  have HX1 := Lib.hid ((Nx.new w h (.slice A k.len c)).below hb1)
  have HB1 := Lib.hid (below_nx (below_a (Below.refl _ _) _) hb1)
  clear hb1
  by_cases hlo : n < 1
  · go_wp2_with fail
    go_ret
    exact ⟨rfl, HB1.out⟩
  · by_cases hhi : 4 < n
    · go_wp2_with fail
      go_ret
      exact ⟨rfl, HB1.out⟩
    · obtain ⟨q0, q1, q2, q3, q4, q5, q6, q7, q8⟩ := HX1.out.nine
      have hl1 := HX1.out.lt
      go_wp2_with fail
      refine (Few_calls k h _ _ (HK.out.below HB1.out) HU.out).mono ?_
      rintro o w2 ⟨v2, rfl, hk2, hb2⟩
      obtain ⟨h2, hh2⟩ : ∃ h2, h2 = cutH h := ⟨_, rfl⟩
      obtain ⟨K, hKK⟩ : ∃ K, K = fewK k := ⟨_, rfl⟩
      rw [← hh2]
      rw [← hKK] at hk2
      have HD : Hid (K.deep ≤ 17 ∧ AllG Gl K ∧ K.len ≤ 40 ∧ h2.u < 18446744073709551616) := Lib.hid (by rw [hKK, hh2]; exact ⟨few_deep k, few_gl k, few_len k, HU.out⟩)
      have HG : Hid (AllG Gl (.cons h2 K .nil) ∧ AllG Gl (.cons arrH (.cons h2 K .nil) .nil)) := Lib.hid (by
        have h1 : AllG Gl (.cons h2 K .nil) := allG_cons (gl_of HD.out.2.2.1) HD.out.2.1 trivial
        exact ⟨h1, allG_cons (gl_of (by simp [Fo.len])) h1 trivial⟩)
      have HX2 := Lib.hid (HX1.out.below hb2)
      have HB2 := Lib.hid (below_nx HB1.out hb2)
      have HKd := Lib.hid (hk2.mono (Q := fun b => w.heap.size < b) fun b hb _ => Nat.lt_of_lt_of_le hl1 hb)
      obtain ⟨A2, c2, rfl, _, _, _⟩ := hk2.form
      clear hk2 hb2 q0 q1 q2 q3 q4 q5 q6 q7 q8 HX1 HB1 hh2 hKK
      simp only [Hd.cells]
      have x := fun i => Bx.f HX2.out i
      have x0 := x 0
      have x1 := x 1
      have x2 := x 2
      have x3 := x 3
      have x4 := x 4
      have x5 := x 5
      have x6 := x 6
      have x7 := x 7
      have x8 := x 8
      clear x
      obtain ⟨y0, y1, y2, y3, y4, y5, y6, y7, y8⟩ := HX2.out.nine
      have hl2 := HX2.out.lt
      go_wp2_with fail
      obtain ⟨W3, hW3⟩ : ∃ W3, W3 = setN w2 w.heap.size h2 (.slice A2 K.len c2) := ⟨_, rfl⟩
      have HX3 : Hid (Nx W3 w.heap.size h2 (.slice A2 K.len c2)) := Lib.hid (by rw [hW3]; exact HX2.out.setN _ _)
      have HB3 : Hid (Below w.heap.size w W3) := Lib.hid (by rw [hW3]; exact below_setN HB2.out (Nat.le_refl _) _ _)
      have HK3 : Hid (Kd An W3 (.slice A2 K.len c2) K) := Lib.hid (by
        rw [hW3]
        exact (HKd.out.kept (by rw [size_setN]; exact Nat.le_refl _) fun b hb _ => setN_other (Nat.ne_of_gt hb)).mono fun _ _ _ => trivial)
      simp only [setN] at hW3
      rw [← hW3]
      clear hW3 x0 x1 x2 x3 x4 x5 x6 x7 x8 y0 y1 y2 y3 y4 y5 y6 y7 y8 HX2 HB2 HKd
      refine (Check_calls n K h2 _ _ (HT.out.below HB3.out) HK3.out HD.out.2.2.2 (by have := HD.out.1; omega) HG.out.1).mono ?_
      rintro o w4 ⟨rfl, hb4⟩
      have HX4 := Lib.hid (HX3.out.below hb4)
      have HB4 := Lib.hid (below_nx HB3.out hb4)
      have HK4 := Lib.hid (HK3.out.below hb4)
      clear hb4
      obtain ⟨y0, y1, y2, y3, y4, y5, y6, y7, y8⟩ := HX4.out.nine
      go_wp2_with fail
      have HKr : Hid (Kd An (w4.alloc (.cells (h2.cells (.slice A2 K.len c2)) 27)) (.slice (some ⟨w4.heap.size, 0, none⟩) 1 1) (.cons h2 K .nil)) := Lib.hid ((root_kd (X := fun _ => False) (c := 1) HK4.out (below_a (Below.refl _ _) _) (heap_alloc_new w4 _) (fun _ _ h => h) (fun h => h) HD.out.2.2.2 (Nat.le_refl _)).mono fun _ _ _ => trivial)
      refine (Check_calls n (.cons h2 K .nil) arrH _ _ (HT.out.below (below_a HB4.out _)) HKr.out (by decide) (by have := HD.out.1; simp only [Fo.deep]; omega) HG.out.2).mono ?_
      rintro o w5 ⟨rfl, hb5⟩
      have HX5 := Lib.hid ((HX4.out.alloc _).below hb5)
      have HB5 := Lib.hid (below_nx (below_a HB4.out _) hb5)
      have HK5 := Lib.hid ((HK4.out.below (below_a (Below.refl _ _) _)).below hb5)
      clear hb5 y0 y1 y2 y3 y4 y5 y6 y7 y8 HKr
      obtain ⟨y0, y1, y2, y3, y4, y5, y6, y7, y8⟩ := HX5.out.nine
      obtain ⟨a, ha⟩ : ∃ a, a = chk n h2 K := ⟨_, rfl⟩
      obtain ⟨b, hb⟩ : ∃ b, b = chk n arrH (.cons h2 K .nil) := ⟨_, rfl⟩
      rw [← ha, ← hb]
      have HA := Lib.hid ha
      have HBb := Lib.hid hb
      clear ha hb
      go_wp2_with fail
      refine (Depth_calls K h2 _ _ HK5.out HD.out.2.2.2 (by have := HD.out.1; omega)).mono ?_
      rintro o w6 ⟨rfl, hb6⟩
      have HX6 := Lib.hid (HX5.out.below hb6)
      have HB6 := Lib.hid (below_nx HB5.out hb6)
      have HK6 := Lib.hid (HK5.out.below hb6)
      clear hb6 y0 y1 y2 y3 y4 y5 y6 y7 y8
      obtain ⟨y0, y1, y2, y3, y4, y5, y6, y7, y8⟩ := HX6.out.nine
      obtain ⟨d, hd⟩ : ∃ d : Nat, d = K.deep + 1 := ⟨_, rfl⟩
      rw [← hd]
      have HDd := Lib.hid hd
      clear hd
      by_cases hg1 : (16 : Int) ≤ (d : Int)
      · have HE : Hid (b = 60) := Lib.hid (by rw [HBb.out]; exact wraps_far (.inl (by have := HDd.out; omega)))
        rw [HE.out]
        go_wp2_with fail
        go_ret
        exact ⟨rfl, HB6.out⟩
      · go_wp2_with fail
        refine (Count_calls K h2 _ _ HK6.out HD.out.2.2.2 (by have := HD.out.1; omega)).mono ?_
        rintro o w7 ⟨rfl, hb7⟩
        have HB7 := Lib.hid (below_nx HB6.out hb7)
        clear hb7 y0 y1 y2 y3 y4 y5 y6 y7 y8
        obtain ⟨X, hX⟩ : ∃ X, X = wrap64 (1 + (K.cnt : Int)) := ⟨_, rfl⟩
        rw [← hX]
        have HXX := Lib.hid hX
        clear hX
        by_cases hg2 : (300 : Int) ≤ X
        · have HE : Hid (b = 60) := Lib.hid (by
            rw [HBb.out]
            exact wraps_far (.inr (wrap_ge' HXX.out (by omega))))
          rw [HE.out]
          go_wp2_with fail
          go_ret
          exact ⟨rfl, HB7.out⟩
        · have HE : Hid (a = b) := Lib.hid (by
            exact wraps_fin HA.out HBb.out HDd.out HXX.out (by omega) (by omega) (by omega) (by omega))
          rw [HE.out]
          go_wp2_with fail
          go_ret
          exact ⟨by simp, HB7.out⟩
end Go.Proofs.YtcofhgdfoamhpaaGreatDoor
