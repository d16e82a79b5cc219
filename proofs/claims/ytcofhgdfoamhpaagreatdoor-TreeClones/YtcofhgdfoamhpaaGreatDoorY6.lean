/- The law TreeClones. -/
import Derived.Test.YtcofhgdfoamhpaaGreatDoorYB
import Derived.Test.YtcofhgdfoamhpaaGreatDoorYC
import Derived.Test.YtcofhgdfoamhpaaGreatDoorYP
namespace Go.Proofs.YtcofhgdfoamhpaaGreatDoor
open Go.RowKit

set_option maxRecDepth 100000 in
set_option maxHeartbeats 2000000 in
theorem clones_calls (h : Hd) (k : Fo) (v : Value) (w : World) (hT : Tq w) (hk : Kd An w v k) (hu : h.u < 18446744073709551616) : Calls Tryz.prog 7 #[.agg (h.cells v)] w (BolP true w) := by
  obtain ⟨A, c, rfl, _, _, _⟩ := hk.form
  have HT := Lib.hid hT
  have HK := Lib.hid hk
  have HU := Lib.hid hu
  clear hT hk hu
  simp only [Hd.cells]
  go_enter Tryz.func7, Tryz.ntmps7
  go_wp2_with fail
  refine (shown_calls _ (HT.out.below (below_a (Below.refl _ _) _))).mono ?_
  rintro o w1 ⟨rfl, hb1⟩
  have HX1 := Lib.hid ((Nx.new w h (.slice A k.len c)).below hb1)
  have HB1 := Lib.hid (below_nx (below_a (Below.refl _ _) _) hb1)
  clear hb1
  obtain ⟨q0, q1, q2, q3, q4, q5, q6, q7, q8⟩ := HX1.out.nine
  have hl1 := HX1.out.lt
  go_wp2_with fail
  refine (Few_calls k h _ _ (HK.out.below HB1.out) HU.out).mono ?_
  rintro o w2 ⟨v2, rfl, hk2, hb2⟩
  obtain ⟨h2, hh2⟩ : ∃ h2, h2 = cutH h := ⟨_, rfl⟩
  obtain ⟨K, hKK⟩ : ∃ K, K = fewK k := ⟨_, rfl⟩
  rw [← hh2]
  rw [← hKK] at hk2
  have HD : Hid (K.deep ≤ 17 ∧ AllG Gl K ∧ K.len ≤ 40 ∧ h2.u < 18446744073709551616) := Lib.hid (by rw [hKK, hh2]; exact ⟨few_deep k, few_gl k, few_len k, HU.out⟩)
  have HI : Hid (cutH h2 = h2 ∧ fewK K = K) := Lib.hid (by rw [hKK, hh2]; exact ⟨cutH_twice h, few_few k⟩)
  have HG : Hid (AllG Gl (.cons h2 K .nil)) := Lib.hid (by
    have h1 : AllG Gl (.cons h2 K .nil) := allG_cons (gl_of HD.out.2.2.1) HD.out.2.1 trivial
    exact h1)
  have HX2 := Lib.hid (HX1.out.below hb2)
  have HB2 := Lib.hid (below_nx HB1.out hb2)
  have HKd := Lib.hid (hk2.mono (Q := fun b => w.heap.size < b) fun b hb _ => Nat.lt_of_lt_of_le hl1 hb)
  obtain ⟨A2, c2, rfl, _, _, _⟩ := hk2.form
  clear hk2 hb2 q0 q1 q2 q3 q4 q5 q6 q7 q8 HX1 HB1 hh2 hKK
  simp only [Hd.cells]
  have x := fun i => Bx.f HX2.out i
  have x0 := x 0
  have x1 := x 1
  have x2 := x 2
  have x3 := x 3
  have x4 := x 4
  have x5 := x 5
  have x6 := x 6
  have x7 := x 7
  have x8 := x 8
  clear x
  obtain ⟨y0, y1, y2, y3, y4, y5, y6, y7, y8⟩ := HX2.out.nine
  have hl2 := HX2.out.lt
  go_wp2_with fail
  obtain ⟨W3, hW3⟩ : ∃ W3, W3 = setN w2 w.heap.size h2 (.slice A2 K.len c2) := ⟨_, rfl⟩
  have HX : Hid (Nx W3 w.heap.size h2 (.slice A2 K.len c2)) := Lib.hid (by rw [hW3]; exact HX2.out.setN _ _)
  have HB : Hid (Below w.heap.size w W3) := Lib.hid (by rw [hW3]; exact below_setN HB2.out (Nat.le_refl _) _ _)
  have HKK : Hid (Kd An W3 (.slice A2 K.len c2) K) := Lib.hid (by
    rw [hW3]
    exact (HKd.out.kept (by rw [size_setN]; exact Nat.le_refl _) fun b hb _ => setN_other (Nat.ne_of_gt hb)).mono fun _ _ _ => trivial)
  simp only [setN] at hW3
  rw [← hW3]
  clear hW3 x0 x1 x2 x3 x4 x5 x6 x7 x8 y0 y1 y2 y3 y4 y5 y6 y7 y8 HX2 HB2 HKd
  have hlW := HX.out.lt
  refine (Clone_calls K h2 _ _ HKK.out (gl_of HD.out.2.2.1) HD.out.2.1).mono ?_
  rintro o w4 ⟨vc, rfl, hck, hb4⟩
  obtain ⟨X, hX⟩ : ∃ X : Nat → Prop, X = fun b => W3.heap.size ≤ b ∧ b < w4.heap.size := ⟨_, rfl⟩
  have HXX : Hid (X = fun b => W3.heap.size ≤ b ∧ b < w4.heap.size) := Lib.hid hX
  have HSp : Hid (Sp X w4 K.deep vc) := Lib.hid (by rw [hX]; exact hck.sp)
  have HKc : Hid (Kd An w4 vc K) := Lib.hid (hck.kd.mono fun _ _ _ => trivial)
  have HKn : Hid (Kd (fun b => ¬ X b) w4 (.slice A2 K.len c2) K) := Lib.hid ((HKK.out.mono (Q := fun b => ¬ X b) fun b _ hb => by rw [hX]; rintro ⟨h1, _⟩; omega).below hb4)
  have hs4 := hb4.size
  have HX4 := Lib.hid (HX.out.below hb4)
  have HB4 := Lib.hid (below_nx HB.out hb4)
  obtain ⟨Ac, cc, rfl, _, _, _⟩ := hck.kd.form
  clear hX hck hb4 HX HB HKK
  obtain ⟨y0, y1, y2, y3, y4, y5, y6, y7, y8⟩ := HX4.out.nine
  have hl4 := HX4.out.lt
  have HA4 := Lib.hid (HX4.out.alloc (.cells (h2.cells (.slice Ac K.len cc)) 27))
  obtain ⟨p0, p1, p2, p3, p4, p5, p6, p7, p8⟩ := HA4.out.nine
  simp only [Hd.cells] at p0 p1 p2 p3 p4 p5 p6 p7 p8 ⊢
  go_wp2_with fail
  have HBa := Lib.hid (below_a (Below.refl _ w4) (.cells (h2.cells (.slice Ac K.len cc)) 27))
  refine (Same_calls K K h2 h2 _ _ _ (HKc.out.below HBa.out) ((HKn.out.mono fun _ _ _ => trivial).below HBa.out)).mono ?_
  rintro o w5 ⟨rfl, hb5⟩
  rw [few_same_h, same_refl]
  have HX5 := Lib.hid (HA4.out.below hb5)
  have HC5 := Lib.hid (show Nx w5 w4.heap.size h2 (.slice Ac K.len cc) from (Nx.new w4 h2 (.slice Ac K.len cc)).below hb5)
  have HB45 := Lib.hid (below_nx HBa.out hb5)
  clear hb5 y0 y1 y2 y3 y4 y5 y6 y7 y8 p0 p1 p2 p3 p4 p5 p6 p7 p8
  obtain ⟨y0, y1, y2, y3, y4, y5, y6, y7, y8⟩ := HX5.out.nine
  have hl5 := HC5.out.lt
  go_wp2_with fail
  refine (Few_calls K h2 _ _ ((HKn.out.mono fun _ _ _ => trivial).below HB45.out) HD.out.2.2.2).mono ?_
  rintro o w6 ⟨vw, rfl, hkw, hb6⟩
  rw [HI.out.1]
  rw [HI.out.2] at hkw
  have HX6 := Lib.hid (HX5.out.below hb6)
  have HC6 := Lib.hid (HC5.out.below hb6)
  have HB46 := Lib.hid (below_nx HB45.out hb6)
  have HKw : Hid (Kd (fun b => ¬ X b) w6 vw K) := Lib.hid (hkw.mono fun b hb _ => by rw [HXX.out]; rintro ⟨_, h1⟩; omega)
  obtain ⟨Aw, cw, rfl, _, _, _⟩ := hkw.form
  clear hkw hb6 y0 y1 y2 y3 y4 y5 y6 y7 y8
  have hs6 := HC6.out.lt
  have HCa := Lib.hid (HC6.out.alloc (.cells (h2.cells (.slice Aw K.len cw)) 27))
  have HXa := Lib.hid (HX6.out.alloc (.cells (h2.cells (.slice Aw K.len cw)) 27))
  have HWa : Hid (Nx (w6.alloc (.cells (h2.cells (.slice Aw K.len cw)) 27)) w6.heap.size h2 (.slice Aw K.len cw)) := Lib.hid (Nx.new w6 h2 _)
  have HB6a := Lib.hid (below_a (Below.refl _ w6) (.cells (h2.cells (.slice Aw K.len cw)) 27))
  obtain ⟨y0, y1, y2, y3, y4, y5, y6, y7, y8⟩ := HCa.out.nine
  simp only [Hd.cells] at y0 y1 y2 y3 y4 y5 y6 y7 y8 ⊢
  go_wp2_with fail
  have HB47 := Lib.hid (below_nx HB46.out HB6a.out)
  have HSp7 := Lib.hid (HSp.out.kept fun b _ hb => HB47.out.block b hb)
  refine (spoil_any X W3.heap.size (fun b hb => by rw [HXX.out] at hb; exact hb.1) K.deep h2 _ _ (Nat.le_trans hs4 HB47.out.size) (fun b hb => by rw [HXX.out] at hb; exact Nat.lt_of_lt_of_le hb.2 HB47.out.size) HSp7.out).mono ?_
  rintro o w8 ⟨rfl, hk8⟩
  have HX8 := Lib.hid (HXa.out.kx hk8.2.1 (by rw [HXX.out]; rintro ⟨h1, _⟩; omega))
  have HW8 := Lib.hid (HWa.out.kx hk8.2.1 (by rw [HXX.out]; rintro ⟨_, h1⟩; omega))
  have HKn8 := Lib.hid ((((HKn.out.below HB47.out).kx hk8.2.1)).mono (Q := An) fun _ _ _ => trivial)
  have HKw8 := Lib.hid ((((HKw.out.below HB6a.out).kx hk8.2.1)).mono (Q := An) fun _ _ _ => trivial)
  have HB8 := Lib.hid ((below_nx HB4.out HB47.out).trans (hk8.1.mono (Nat.le_of_lt hlW)))
  clear hk8 y0 y1 y2 y3 y4 y5 y6 y7 y8
  obtain ⟨y0, y1, y2, y3, y4, y5, y6, y7, y8⟩ := HX8.out.nine
  obtain ⟨p0, p1, p2, p3, p4, p5, p6, p7, p8⟩ := HW8.out.nine
  go_wp2_with fail
  refine (rSame_calls K K h2 h2 _ _ _ HKn8.out HKw8.out).mono ?_
  rintro o w9 ⟨rfl, hb9⟩
  rw [few_same_h, same_refl]
  have HB9 := Lib.hid (below_nx HB8.out hb9)
  clear hb9 y0 y1 y2 y3 y4 y5 y6 y7 y8 p0 p1 p2 p3 p4 p5 p6 p7 p8
  go_wp2_with fail
  go_ret
  exact ⟨rfl, HB9.out⟩
end Go.Proofs.YtcofhgdfoamhpaaGreatDoor
