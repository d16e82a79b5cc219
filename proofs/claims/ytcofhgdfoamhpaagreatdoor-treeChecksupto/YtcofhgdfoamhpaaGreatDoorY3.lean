/- The law TreeParts. -/
import Derived.Test.YtcofhgdfoamhpaaGreatDoorY2
namespace Go.Proofs.YtcofhgdfoamhpaaGreatDoor
open Go.RowKit

theorem okAll_drop {ok : Hd → Fo → Bool} : ∀ (j : Nat) {f : Fo} {h : Hd} {k r : Fo}, okAll ok f = true → f.drop j = .cons h k r → okAll ok (.cons h k .nil) = true
  | 0, .cons _ _ _, _, _, _, e, d => by
    cases d
    rw [okAll, Bool.and_eq_true] at e
    rw [okAll, e.1]
    rfl
  | 0, .nil, _, _, _, _, d => by cases d
  | _ + 1, .nil, _, _, _, _, d => by cases d
  | j + 1, .cons _ _ _, _, _, _, e, d => by
    rw [okAll, Bool.and_eq_true] at e
    exact okAll_drop j e.2 d
theorem fitAll_drop {F : Frm} : ∀ (j : Nat) {f : Fo} {h : Hd} {k r : Fo}, fitAll F f = true → f.drop j = .cons h k r → fitAll F (.cons h k .nil) = true
  | 0, .cons _ _ _, _, _, _, e, d => by
    cases d
    rw [fitAll, Bool.and_eq_true] at e
    rw [fitAll, e.1]
    rfl
  | 0, .nil, _, _, _, _, d => by cases d
  | _ + 1, .nil, _, _, _, _, d => by cases d
  | j + 1, .cons _ _ _, _, _, _, e, d => by
    rw [fitAll, Bool.and_eq_true] at e
    exact fitAll_drop j e.2 d
theorem part_rgt {j : Nat} {h h' : Hd} {k k' r : Fo} (e : rgt h k = true) (d : k.drop j = .cons h' k' r) : rgt h' k' = true := by
  rw [rgt, rightR, Bool.and_eq_true, decide_eq_true_eq, okAll, Bool.and_eq_true, Bool.and_eq_true] at e
  have h1 := take_cnt j k d
  have h2 := drop_deep j k d
  rw [rgt, rightR, decide_eq_true (by omega), okAll_drop j e.2.1.2 d]
  rfl
theorem part_chk {j : Nat} {n : Int} {h h' : Hd} {k k' r : Fo} (e : rgt h k = true) (c : chk n h k = 0) (d : k.drop j = .cons h' k' r) : chk n h' k' = 0 := by
  rw [chk, e, if_pos rfl] at c
  have hf : fitAll (frmOf n) (.cons h k .nil) = true := by
    cases hq : fitAll (frmOf n) (.cons h k .nil) with
    | true => rfl
    | false => rw [hq] at c; cases c
  rw [fitAll, Bool.and_eq_true, Bool.and_eq_true] at hf
  rw [chk, part_rgt e d, if_pos rfl, fitAll_drop j hf.1.2 d]
  rfl
set_option maxRecDepth 100000 in
set_option maxHeartbeats 2000000 in
theorem parts_calls (h : Hd) (k : Fo) (v : Value) (n : Int) (w : World) (hT : Tq w) (hk : Kd An w v k) (hu : h.u < 18446744073709551616) : Calls Tryz.prog 5 #[.agg (h.cells v), .int .i64 n] w (BolP true w) := by
  obtain ⟨A, c, rfl, _, _, _⟩ := hk.form
  have HT := Lib.hid hT
  have HK := Lib.hid hk
  have HU := Lib.hid hu
  clear hT hk hu
  simp only [Hd.cells]
  go_enter Tryz.func5, Tryz.ntmps5
  go_wp2_with fail
  refine (shown_calls _ (HT.out.below (below_a (Below.refl _ _) _))).mono ?_
  rintro o w1 ⟨rfl, hb1⟩
  have HX1 := Lib.hid ((Nx.new w h (.slice A k.len c)).below hb1)
  have HB1 := Lib.hid (below_nx (below_a (Below.refl _ _) _) hb1)
  clear hb1
  obtain ⟨q0, q1, q2, q3, q4, q5, q6, q7, q8⟩ := HX1.out.nine
  have hl1 := HX1.out.lt
  go_wp2_with fail
  refine (Few_calls k h _ _ (HK.out.below HB1.out) HU.out).mono ?_
  rintro o w2 ⟨v2, rfl, hk2, hb2⟩
  obtain ⟨h2, hh2⟩ : ∃ h2, h2 = cutH h := ⟨_, rfl⟩
  obtain ⟨K, hKK⟩ : ∃ K, K = fewK k := ⟨_, rfl⟩
  rw [← hh2]
  rw [← hKK] at hk2
  have HD : Hid (K.deep ≤ 17 ∧ AllG Gl K ∧ K.len ≤ 40 ∧ h2.u < 18446744073709551616) := Lib.hid (by rw [hKK, hh2]; exact ⟨few_deep k, few_gl k, few_len k, HU.out⟩)
  have HG : Hid (AllG Gl (.cons h2 K .nil)) := Lib.hid (by
    have h1 : AllG Gl (.cons h2 K .nil) := allG_cons (gl_of HD.out.2.2.1) HD.out.2.1 trivial
    exact h1)
  have HX2 := Lib.hid (HX1.out.below hb2)
  have HB2 := Lib.hid (below_nx HB1.out hb2)
  have HKd := Lib.hid (hk2.mono (Q := fun b => w.heap.size < b) fun b hb _ => Nat.lt_of_lt_of_le hl1 hb)
  obtain ⟨A2, c2, rfl, _, _, _⟩ := hk2.form
  clear hk2 hb2 q0 q1 q2 q3 q4 q5 q6 q7 q8 HX1 HB1 hh2 hKK
  simp only [Hd.cells]
  have x := fun i => Bx.f HX2.out i
  have x0 := x 0
  have x1 := x 1
  have x2 := x 2
  have x3 := x 3
  have x4 := x 4
  have x5 := x 5
  have x6 := x 6
  have x7 := x 7
  have x8 := x 8
  clear x
  obtain ⟨y0, y1, y2, y3, y4, y5, y6, y7, y8⟩ := HX2.out.nine
  have hl2 := HX2.out.lt
  go_wp2_with fail
  obtain ⟨W3, hW3⟩ : ∃ W3, W3 = setN w2 w.heap.size h2 (.slice A2 K.len c2) := ⟨_, rfl⟩
  have HX3 : Hid (Nx W3 w.heap.size h2 (.slice A2 K.len c2)) := Lib.hid (by rw [hW3]; exact HX2.out.setN _ _)
  have HB3 : Hid (Below w.heap.size w W3) := Lib.hid (by rw [hW3]; exact below_setN HB2.out (Nat.le_refl _) _ _)
  have HK3 : Hid (Kd An W3 (.slice A2 K.len c2) K) := Lib.hid (by
    rw [hW3]
    exact (HKd.out.kept (by rw [size_setN]; exact Nat.le_refl _) fun b hb _ => setN_other (Nat.ne_of_gt hb)).mono fun _ _ _ => trivial)
  simp only [setN] at hW3
  rw [← hW3]
  clear hW3 x0 x1 x2 x3 x4 x5 x6 x7 x8 y0 y1 y2 y3 y4 y5 y6 y7 y8 HX2 HB2 HKd
  have HLL : Hid (K.len ≠ 0 → ∃ B o, A2 = some ⟨B, o, none⟩ ∧ B < W3.heap.size ∧ An B ∧ Lies An W3 K B o) := Lib.hid (by
    obtain ⟨A', c', e, _, _, hh⟩ := HK3.out.form
    cases e
    exact hh)
  refine (Check_calls n K h2 _ _ (HT.out.below HB3.out) HK3.out HD.out.2.2.2 (by have := HD.out.1; omega) HG.out).mono ?_
  rintro o w4 ⟨rfl, hb4⟩
  have HX4 := Lib.hid (HX3.out.below hb4)
  have HB4 := Lib.hid hb4
  clear hb4
  obtain ⟨E, hE⟩ : ∃ E, E = chk n h2 K := ⟨_, rfl⟩
  rw [← hE]
  cases hr : rgt h2 K with
  | false =>
    have HE : Hid (E = 60) := Lib.hid (by rw [hE, chk, hr]; rfl)
    have HRt := Lib.hid hr
    clear hE hr
    rw [HE.out]
    obtain ⟨y0, y1, y2, y3, y4, y5, y6, y7, y8⟩ := HX4.out.nine
    go_wp2_with fail
    refine (Right_calls K h2 _ _ ((HT.out.below HB3.out).below HB4.out) (HK3.out.below HB4.out) HD.out.2.2.2 (by have := HD.out.1; omega) HG.out).mono ?_
    rintro o1 w6 ⟨rfl, hb6⟩
    rw [HRt.out]
    have HB6 := Lib.hid (below_nx HB3.out (below_nx HB4.out hb6))
    clear hb6
    go_wp2_with fail
    go_ret
    exact ⟨rfl, HB6.out⟩
  | true =>
    have HP : Hid (∀ (j : Nat) (h' : Hd) (k' r : Fo), K.drop j = .cons h' k' r → rgt h' k' = true ∧ (E = 0 → chk n h' k' = 0)) := Lib.hid (fun j h' k' r d => ⟨part_rgt hr d, fun e => part_chk hr (hE.symm.trans e) d⟩)
    have HRt := Lib.hid hr
    have he : E = 0 ∨ E = 61 := by
      rw [hE, chk, hr, if_pos rfl]
      split
      · exact .inl rfl
      · exact .inr rfl
    clear hE hr
    rcases he with he | he <;> have HE := Lib.hid he <;> clear he
    · rw [HE.out] at HP
      rw [HE.out]
      clear HE
      go_wp2_with fail
      go_loopw [7] (fun i wr => ∃ j : Nat, i = .int .i64 j ∧ j ≤ K.len ∧ Below W3.heap.size W3 wr ∧ Nx wr w.heap.size h2 (.slice A2 K.len c2)) (fun i _ => K.len - (intOf i).toNat)
      case atStart => exact ⟨0, rfl, Nat.zero_le _, HB4.out, HX4.out⟩
      case round =>
        obtain ⟨j, rfl, hj, hb, hbx⟩ := hrel
        have HB := Lib.hid hb
        have HX := Lib.hid hbx
        have c8 := hbx.c8
        clear hb hbx
        by_cases hgo : j < K.len
        · obtain ⟨B, o, rfl, hB, _, hLi⟩ := HLL.out (by omega)
          obtain ⟨h', k', r, hd⟩ := drop_cons hgo
          have hLj := lies_drop j hLi
          rw [hd] at hLj
          obtain ⟨⟨v', hc', hk'⟩, hu', _⟩ := lies_cons.1 hLj
          have HK' := Lib.hid hk'
          have HU' := Lib.hid hu'
          have hkd : k'.deep < 1000 := by have := drop_deep j K hd; have := HD.out.1; omega
          have HGj := Lib.hid (show AllG Gl (.cons h' k' .nil) from allG_cons (allG_at HD.out.2.1 hd).1 (allG_at HD.out.2.1 hd).2 trivial)
          have HQ := Lib.hid (HP.out j h' k' r hd)
          obtain ⟨d0, d1, d2, d3, d4, d5, d6, d7, d8⟩ := (hc'.below HB.out).nine
          have HC' := Lib.hid (hc'.below HB.out)
          have hln : (K.len : Int) < 9223372036854775807 := by have := HD.out.2.2.1; omega
          clear hLi hLj hc' hk' hd hu'
          go_wp2_with fail
          refine (Check_calls n k' h' v' _ ((HT.out.below HB3.out).below HB.out) (HK'.out.below HB.out) HU'.out hkd HGj.out).mono ?_
          rintro o1 w5 ⟨rfl, hb5⟩
          have HB5 := Lib.hid (below_nx HB.out hb5)
          have HX5 := Lib.hid (HX.out.below hb5)
          clear d0 d1 d2 d3 d4 d5 d6 d7 d8 c8
          obtain ⟨d0, d1, d2, d3, d4, d5, d6, d7, d8⟩ := (HC'.out.below hb5).nine
          have c8 := HX5.out.c8
          clear hb5
          obtain ⟨f, hf⟩ : ∃ f, f = chk n h' k' := ⟨_, rfl⟩
          rw [← hf] at HQ ⊢
          clear hf
          go_wp2_with fail
          refine (Right_calls k' h' v' _ ((HT.out.below HB3.out).below HB5.out) (HK'.out.below HB5.out) HU'.out hkd HGj.out).mono ?_
          rintro o1 w6 ⟨rfl, hb6⟩
          rw [HQ.out.1]
          have HB6 := Lib.hid (below_nx HB5.out hb6)
          have HX6 := Lib.hid (HX5.out.below hb6)
          clear hb6 d0 d1 d2 d3 d4 d5 d6 d7 d8 c8
          rw [HQ.out.2 (by first | rfl | trivial)]
          go_wp2_with fail
          go_roundw
          case rel => exact ⟨j + 1, by go_num, hgo, HB6.out, HX6.out⟩
          case measure => simp [intOf]; omega
        · obtain ⟨y0, y1, y2, y3, y4, y5, y6, y7, y8⟩ := HX.out.nine
          go_wp2_with fail
          refine (Right_calls K h2 _ _ ((HT.out.below HB3.out).below HB.out) (HK3.out.below HB.out) HD.out.2.2.2 (by have := HD.out.1; omega) HG.out).mono ?_
          rintro o1 w6 ⟨rfl, hb6⟩
          rw [HRt.out]
          have HB6 := Lib.hid (below_nx HB3.out (below_nx HB.out hb6))
          clear hb6 y0 y1 y2 y3 y4 y5 y6 y7 y8
          go_wp2_with fail
          go_ret
          exact ⟨rfl, HB6.out⟩
    · rw [HE.out] at HP
      rw [HE.out]
      clear HE
      go_wp2_with fail
      go_loopw [7] (fun i wr => ∃ j : Nat, i = .int .i64 j ∧ j ≤ K.len ∧ Below W3.heap.size W3 wr ∧ Nx wr w.heap.size h2 (.slice A2 K.len c2)) (fun i _ => K.len - (intOf i).toNat)
      case atStart => exact ⟨0, rfl, Nat.zero_le _, HB4.out, HX4.out⟩
      case round =>
        obtain ⟨j, rfl, hj, hb, hbx⟩ := hrel
        have HB := Lib.hid hb
        have HX := Lib.hid hbx
        have c8 := hbx.c8
        clear hb hbx
        by_cases hgo : j < K.len
        · obtain ⟨B, o, rfl, hB, _, hLi⟩ := HLL.out (by omega)
          obtain ⟨h', k', r, hd⟩ := drop_cons hgo
          have hLj := lies_drop j hLi
          rw [hd] at hLj
          obtain ⟨⟨v', hc', hk'⟩, hu', _⟩ := lies_cons.1 hLj
          have HK' := Lib.hid hk'
          have HU' := Lib.hid hu'
          have hkd : k'.deep < 1000 := by have := drop_deep j K hd; have := HD.out.1; omega
          have HGj := Lib.hid (show AllG Gl (.cons h' k' .nil) from allG_cons (allG_at HD.out.2.1 hd).1 (allG_at HD.out.2.1 hd).2 trivial)
          have HQ := Lib.hid (HP.out j h' k' r hd)
          obtain ⟨d0, d1, d2, d3, d4, d5, d6, d7, d8⟩ := (hc'.below HB.out).nine
          have HC' := Lib.hid (hc'.below HB.out)
          have hln : (K.len : Int) < 9223372036854775807 := by have := HD.out.2.2.1; omega
          clear hLi hLj hc' hk' hd hu'
          go_wp2_with fail
          refine (Check_calls n k' h' v' _ ((HT.out.below HB3.out).below HB.out) (HK'.out.below HB.out) HU'.out hkd HGj.out).mono ?_
          rintro o1 w5 ⟨rfl, hb5⟩
          have HB5 := Lib.hid (below_nx HB.out hb5)
          have HX5 := Lib.hid (HX.out.below hb5)
          clear d0 d1 d2 d3 d4 d5 d6 d7 d8 c8
          obtain ⟨d0, d1, d2, d3, d4, d5, d6, d7, d8⟩ := (HC'.out.below hb5).nine
          have c8 := HX5.out.c8
          clear hb5
          obtain ⟨f, hf⟩ : ∃ f, f = chk n h' k' := ⟨_, rfl⟩
          rw [← hf] at HQ ⊢
          clear hf
          go_wp2_with fail
          refine (Right_calls k' h' v' _ ((HT.out.below HB3.out).below HB5.out) (HK'.out.below HB5.out) HU'.out hkd HGj.out).mono ?_
          rintro o1 w6 ⟨rfl, hb6⟩
          rw [HQ.out.1]
          have HB6 := Lib.hid (below_nx HB5.out hb6)
          have HX6 := Lib.hid (HX5.out.below hb6)
          clear hb6 d0 d1 d2 d3 d4 d5 d6 d7 d8 c8
          go_wp2_with fail
          go_roundw
          case rel => exact ⟨j + 1, by go_num, hgo, HB6.out, HX6.out⟩
          case measure => simp [intOf]; omega
        · obtain ⟨y0, y1, y2, y3, y4, y5, y6, y7, y8⟩ := HX.out.nine
          go_wp2_with fail
          refine (Right_calls K h2 _ _ ((HT.out.below HB3.out).below HB.out) (HK3.out.below HB.out) HD.out.2.2.2 (by have := HD.out.1; omega) HG.out).mono ?_
          rintro o1 w6 ⟨rfl, hb6⟩
          rw [HRt.out]
          have HB6 := Lib.hid (below_nx HB3.out (below_nx HB.out hb6))
          clear hb6 y0 y1 y2 y3 y4 y5 y6 y7 y8
          go_wp2_with fail
          go_ret
          exact ⟨rfl, HB6.out⟩
end Go.Proofs.YtcofhgdfoamhpaaGreatDoor
