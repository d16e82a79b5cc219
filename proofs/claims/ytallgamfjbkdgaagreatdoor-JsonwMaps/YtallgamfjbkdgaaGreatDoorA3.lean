/- The law JsonwApart. -/
import Derived.Test.YtallgamfjbkdgaaGreatDoorJ9
import Derived.Test.YtallgamfjbkdgaaGreatDoorYS
import Derived.Test.YtallgamfjbkdgaaGreatDoorMr
namespace Go.Proofs.YtallgamfjbkdgaaGreatDoor
open Go.RowKit

theorem docs_same {h h2 : Hd} {k k2 : Fo} (e : chk 1 h k = 0) (e2 : chk 1 h2 k2 = 0) : decide ((docB layP h k).toList = (docB layP h2 k2).toList) = (sameH h h2 && sameF k k2) := by
  rw [docB, docB, if_pos e, if_pos e2]
  exact docs_apart e e2
set_option maxRecDepth 100000 in
set_option maxHeartbeats 4000000 in
theorem apart_calls (ha hb : Hd) (ka kb : Fo) (va vb : Value) (w : World) (hT : Tj w) (hka : Kd An w va ka) (hkb : Kd An w vb kb) (hua : ha.u < 18446744073709551616) (hub : hb.u < 18446744073709551616) : Calls Tryz.prog 4 #[.agg (ha.cells va), .agg (hb.cells vb)] w (BolP true w) := by
  obtain ⟨A, c, rfl, _, _, _⟩ := hka.form
  obtain ⟨A', c', rfl, _, _, _⟩ := hkb.form
  have HT := Lib.hid hT
  have HK := Lib.hid hka
  have HK' := Lib.hid hkb
  have HU := Lib.hid hua
  have HU' := Lib.hid hub
  clear hT hka hkb hua hub
  simp only [Hd.cells]
  go_enter Tryz.func4, Tryz.ntmps4
  go_wp2_with fail
  refine (jshown_calls _ (HT.out.below (below_a (below_a (Below.refl _ _) _) _))).mono ?_
  rintro o w1 ⟨rfl, hb1⟩
  have HX1 := Lib.hid (((Nx.new w ha (.slice A ka.len c)).alloc _).below hb1)
  have HY1 := Lib.hid (show Nx w1 (w.heap.size + 1) hb (.slice A' kb.len c') from (show Nx _ (w.heap.size + 1) hb (.slice A' kb.len c') from Bx.new1 w _ _ _).below hb1)
  have HB1 := Lib.hid (below_nx (below_a (below_a (Below.refl _ _) _) _) hb1)
  clear hb1
  obtain ⟨q0, q1, q2, q3, q4, q5, q6, q7, q8⟩ := HX1.out.nine
  have hl1 := HX1.out.lt
  have hm1 := HY1.out.lt
  go_wp2_with fail
  refine (Few_calls ka ha _ _ (HK.out.below HB1.out) HU.out).mono ?_
  rintro o w2 ⟨v2, rfl, hk2, hb2⟩
  obtain ⟨h2, hh2⟩ : ∃ h2, h2 = cutH ha := ⟨_, rfl⟩
  obtain ⟨K, hKK⟩ : ∃ K, K = fewK ka := ⟨_, rfl⟩
  have HD : Hid (K.deep < 1000 ∧ h2.u < 18446744073709551616 ∧ AllG Gl (.cons h2 K .nil)) := Lib.hid (by rw [hKK, hh2]; exact ⟨Nat.lt_of_le_of_lt (few_deep ka) (by decide), HU.out, few_all _ ka⟩)
  rw [← hh2]
  rw [← hKK] at hk2
  have HX2 := Lib.hid (HX1.out.below hb2)
  have HY2 := Lib.hid (HY1.out.below hb2)
  have HB2 := Lib.hid (below_nx HB1.out hb2)
  have HKd := Lib.hid (hk2.mono (Q := fun b => w.heap.size + 1 < b) fun b hb _ => Nat.lt_of_lt_of_le hm1 hb)
  obtain ⟨A2, c2, rfl, _, _, _⟩ := hk2.form
  clear hk2 hb2 q0 q1 q2 q3 q4 q5 q6 q7 q8 HX1 HB1 HY1 hh2 hKK
  simp only [Hd.cells]
  have x := fun i => Bx.f HX2.out i
  have x0 := x 0
  have x1 := x 1
  have x2 := x 2
  have x3 := x 3
  have x4 := x 4
  have x5 := x 5
  have x6 := x 6
  have x7 := x 7
  have x8 := x 8
  clear x
  obtain ⟨y0, y1, y2, y3, y4, y5, y6, y7, y8⟩ := HX2.out.nine
  obtain ⟨p0, p1, p2, p3, p4, p5, p6, p7, p8⟩ := HY2.out.nine
  have hl2 := HX2.out.lt
  have hm2 := HY2.out.lt
  go_wp2_with fail
  obtain ⟨W3, hW3⟩ : ∃ W3, W3 = setN w2 w.heap.size h2 (.slice A2 K.len c2) := ⟨_, rfl⟩
  have HX3 : Hid (Nx W3 w.heap.size h2 (.slice A2 K.len c2)) := Lib.hid (by rw [hW3]; exact HX2.out.setN _ _)
  have HY3 : Hid (Nx W3 (w.heap.size + 1) hb (.slice A' kb.len c')) := Lib.hid (by rw [hW3]; exact (setN_other (by omega)).trans HY2.out)
  have HB3 : Hid (Below w.heap.size w W3) := Lib.hid (by rw [hW3]; exact below_setN HB2.out (Nat.le_refl _) _ _)
  have HK3 : Hid (Kd (fun b => w.heap.size + 1 < b) W3 (.slice A2 K.len c2) K) := Lib.hid (by
    rw [hW3]
    exact HKd.out.kept (by rw [size_setN]; exact Nat.le_refl _) fun b hb _ => setN_other (by omega))
  simp only [setN] at hW3
  rw [← hW3]
  clear hW3 x0 x1 x2 x3 x4 x5 x6 x7 x8 y0 y1 y2 y3 y4 y5 y6 y7 y8 p0 p1 p2 p3 p4 p5 p6 p7 p8 HX2 HY2 HB2 HKd
  have hm3 := HY3.out.lt
  refine (Few_calls kb hb _ _ (HK'.out.below HB3.out) HU'.out).mono ?_
  rintro o w4 ⟨v4, rfl, hk4, hb4⟩
  obtain ⟨h4, hh4⟩ : ∃ h4, h4 = cutH hb := ⟨_, rfl⟩
  obtain ⟨L, hLL⟩ : ∃ L, L = fewK kb := ⟨_, rfl⟩
  have HE : Hid (L.deep < 1000 ∧ h4.u < 18446744073709551616 ∧ AllG Gl (.cons h4 L .nil)) := Lib.hid (by rw [hLL, hh4]; exact ⟨Nat.lt_of_le_of_lt (few_deep kb) (by decide), HU'.out, few_all _ kb⟩)
  rw [← hh4]
  rw [← hLL] at hk4
  have HX4 := Lib.hid (HX3.out.below hb4)
  have HY4 := Lib.hid (HY3.out.below hb4)
  have HB4 := Lib.hid (below_nx HB3.out hb4)
  have HK4 := Lib.hid (HK3.out.below hb4)
  have HL4 := Lib.hid (hk4.mono (Q := fun b => w.heap.size + 1 < b) fun b hb _ => Nat.lt_of_lt_of_le hm3 hb)
  obtain ⟨A4, c4, rfl, _, _, _⟩ := hk4.form
  clear hk4 hb4 HX3 HB3 HY3 hh4 hLL
  simp only [Hd.cells]
  have x := fun i => Bx.f HY4.out i
  have x0 := x 0
  have x1 := x 1
  have x2 := x 2
  have x3 := x 3
  have x4 := x 4
  have x5 := x 5
  have x6 := x 6
  have x7 := x 7
  have x8 := x 8
  clear x
  obtain ⟨y0, y1, y2, y3, y4, y5, y6, y7, y8⟩ := HY4.out.nine
  obtain ⟨z0, z1, z2, z3, z4, z5, z6, z7, z8⟩ := HX4.out.nine
  have hl4 := HX4.out.lt
  have hm4 := HY4.out.lt
  go_wp2_with fail
  obtain ⟨W5, hW5⟩ : ∃ W5, W5 = setN w4 (w.heap.size + 1) h4 (.slice A4 L.len c4) := ⟨_, rfl⟩
  have HY5 : Hid (Nx W5 (w.heap.size + 1) h4 (.slice A4 L.len c4)) := Lib.hid (by rw [hW5]; exact HY4.out.setN _ _)
  have HX5 : Hid (Nx W5 w.heap.size h2 (.slice A2 K.len c2)) := Lib.hid (by rw [hW5]; exact (setN_other (by omega)).trans HX4.out)
  have HB5 : Hid (Below w.heap.size w W5) := Lib.hid (by rw [hW5]; exact below_setN HB4.out (by omega) _ _)
  have HK5 : Hid (Kd An W5 (.slice A2 K.len c2) K) := Lib.hid (by
    rw [hW5]
    exact (HK4.out.kept (by rw [size_setN]; exact Nat.le_refl _) fun b hb _ => setN_other (by omega)).mono fun _ _ _ => trivial)
  have HL5 : Hid (Kd An W5 (.slice A4 L.len c4) L) := Lib.hid (by
    rw [hW5]
    exact (HL4.out.kept (by rw [size_setN]; exact Nat.le_refl _) fun b hb _ => setN_other (by omega)).mono fun _ _ _ => trivial)
  simp only [setN] at hW5
  rw [← hW5]
  clear hW5 x0 x1 x2 x3 x4 x5 x6 x7 x8 y0 y1 y2 y3 y4 y5 y6 y7 y8 z0 z1 z2 z3 z4 z5 z6 z7 z8 HX4 HY4 HB4 HK4 HL4
  obtain ⟨Q, hQ⟩ : ∃ Q, Q = (sameH h2 h4 && sameF K L) := ⟨_, rfl⟩
  obtain ⟨D, hD⟩ : ∃ D, D = docB layP h2 K := ⟨_, rfl⟩
  obtain ⟨e, he⟩ : ∃ e, e = chk 1 h2 K := ⟨_, rfl⟩
  obtain ⟨D', hD'⟩ : ∃ D', D' = docB layP h4 L := ⟨_, rfl⟩
  obtain ⟨f, hf⟩ : ∃ f, f = chk 1 h4 L := ⟨_, rfl⟩
  have HQ : Hid (e = 0 → f = 0 → decide (D.toList = D'.toList) = Q) := Lib.hid (by
    rw [he, hf, hQ, hD, hD']
    exact fun a b => docs_same a b)
  have HA : Hid (Calls Tryz.prog 9 #[.agg (h2.cells (.slice A2 K.len c2))] W5 fun o w' => o = .returned (.tuple #[.string D, .int .i64 e]) ∧ Below W5.heap.size W5 w') := Lib.hid (by
    have := Write_calls h2 K _ W5 (HT.out.below HB5.out) HK5.out HD.out.2.1 HD.out.1 HD.out.2.2
    unfold DocP at this
    rwa [← hD, ← he] at this)
  have HZ : Hid (∀ W, Below W5.heap.size W5 W → Calls Tryz.prog 9 #[.agg (h4.cells (.slice A4 L.len c4))] W fun o w' => o = .returned (.tuple #[.string D', .int .i64 f]) ∧ Below W.heap.size W w') := Lib.hid (fun W hW => by
    have := Write_calls h4 L (.slice A4 L.len c4) W ((HT.out.below HB5.out).below hW) (HL5.out.below hW) HE.out.2.1 HE.out.1 HE.out.2.2
    unfold DocP at this
    rwa [← hD', ← hf] at this)
  have HR : Hid (∀ W, Below W5.heap.size W5 W → Calls Tryz.prog 14 #[.agg (h2.cells (.slice A2 K.len c2)), .agg (h4.cells (.slice A4 L.len c4))] W (BolP Q W)) := Lib.hid (fun W hW => by rw [hQ]; exact rSame_calls K L h2 h4 _ _ W (HK5.out.below hW) (HL5.out.below hW))
  simp only [Hd.cells] at HA HZ HR
  clear hQ hD he hD' hf HK5 HL5 HK3 HD HE HT
  obtain ⟨q0, q1, q2, q3, q4, q5, q6, q7, q8⟩ := HX5.out.nine
  go_wp2_with fail
  refine HA.out.mono ?_
  rintro o w6 ⟨rfl, hb6⟩
  have HB6 := Lib.hid hb6
  clear hb6 q0 q1 q2 q3 q4 q5 q6 q7 q8
  obtain ⟨q0, q1, q2, q3, q4, q5, q6, q7, q8⟩ := (HY5.out.below HB6.out).nine
  go_wp2_with fail
  refine (HZ.out _ HB6.out).mono ?_
  rintro o w7 ⟨rfl, hb7⟩
  have HB7 := Lib.hid (below_nx HB6.out hb7)
  clear hb7 q0 q1 q2 q3 q4 q5 q6 q7 q8
  obtain ⟨q0, q1, q2, q3, q4, q5, q6, q7, q8⟩ := (HX5.out.below HB7.out).nine
  obtain ⟨p0, p1, p2, p3, p4, p5, p6, p7, p8⟩ := (HY5.out.below HB7.out).nine
  by_cases he : e = 0
  · by_cases hf : f = 0
    · subst he hf
      have HQ2 : Hid (((D.toList == D'.toList) == Q) = true) := Lib.hid (by rw [← HQ.out rfl rfl, beq_iff_eq, Bool.eq_iff_iff, beq_iff_eq, decide_eq_true_eq])
      go_wp2_with fail
      refine (HR.out _ HB7.out).mono ?_
      rintro o w8 ⟨rfl, hb8⟩
      have HB8 := Lib.hid (below_nx HB7.out hb8)
      clear hb8
      go_wp2_with fail
      go_ret
      exact ⟨congrArg (fun b => Ending.returned (Value.bool b)) HQ2.out, below_nx HB5.out HB8.out⟩
    · have hf2 : (f != 0) = true := by simpa using hf
      have hf3 : (f == 0) = false := by simpa using hf
      subst he
      go_wp2_with fail
      go_ret
      exact ⟨rfl, below_nx HB5.out HB7.out⟩
  · have hf2 : (e != 0) = true := by simpa using he
    have hf3 : (e == 0) = false := by simpa using he
    go_wp2_with fail
    go_ret
    exact ⟨rfl, below_nx HB5.out HB7.out⟩
end Go.Proofs.YtallgamfjbkdgaaGreatDoor
