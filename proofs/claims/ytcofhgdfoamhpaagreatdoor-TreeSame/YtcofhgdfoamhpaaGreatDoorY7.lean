/- The law TreeSame. -/
import Derived.Test.YtcofhgdfoamhpaaGreatDoorYB
import Derived.Deep.RegionHeld3
namespace Go.Proofs.YtcofhgdfoamhpaaGreatDoor
open Go.RowKit

set_option maxRecDepth 100000 in
set_option maxHeartbeats 4000000 in
theorem sames_calls (ha hb : Hd) (ka kb : Fo) (va vb : Value) (w : World) (hT : Tq w) (hka : Kd An w va ka) (hkb : Kd An w vb kb) (hua : ha.u < 18446744073709551616) (hub : hb.u < 18446744073709551616) : Calls Tryz.prog 4 #[.agg (ha.cells va), .agg (hb.cells vb)] w (BolP true w) := by
  obtain ⟨A, c, rfl, _, _, _⟩ := hka.form
  obtain ⟨A', c', rfl, _, _, _⟩ := hkb.form
  have HT := Lib.hid hT
  have HK := Lib.hid hka
  have HK' := Lib.hid hkb
  have HU := Lib.hid hua
  have HU' := Lib.hid hub
  clear hT hka hkb hua hub
  simp only [Hd.cells]
  go_enter Tryz.func4, Tryz.ntmps4
  go_wp2_with fail
  refine (shown_calls _ (HT.out.below (below_a (below_a (Below.refl _ _) _) _))).mono ?_
  rintro o w1 ⟨rfl, hb1⟩
  have HX1 := Lib.hid (((Nx.new w ha (.slice A ka.len c)).alloc _).below hb1)
  have HY1 := Lib.hid (show Nx w1 (w.heap.size + 1) hb (.slice A' kb.len c') from (show Nx _ (w.heap.size + 1) hb (.slice A' kb.len c') from Bx.new1 w _ _ _).below hb1)
  have HB1 := Lib.hid (below_nx (below_a (below_a (Below.refl _ _) _) _) hb1)
  clear hb1
  obtain ⟨q0, q1, q2, q3, q4, q5, q6, q7, q8⟩ := HX1.out.nine
  have hl1 := HX1.out.lt
  have hm1 := HY1.out.lt
  go_wp2_with fail
  refine (Few_calls ka ha _ _ (HK.out.below HB1.out) HU.out).mono ?_
  rintro o w2 ⟨v2, rfl, hk2, hb2⟩
  obtain ⟨h2, hh2⟩ : ∃ h2, h2 = cutH ha := ⟨_, rfl⟩
  obtain ⟨K, hKK⟩ : ∃ K, K = fewK ka := ⟨_, rfl⟩
  rw [← hh2]
  rw [← hKK] at hk2
  have HX2 := Lib.hid (HX1.out.below hb2)
  have HY2 := Lib.hid (HY1.out.below hb2)
  have HB2 := Lib.hid (below_nx HB1.out hb2)
  have HKd := Lib.hid (hk2.mono (Q := fun b => w.heap.size + 1 < b) fun b hb _ => Nat.lt_of_lt_of_le hm1 hb)
  obtain ⟨A2, c2, rfl, _, _, _⟩ := hk2.form
  clear hk2 hb2 q0 q1 q2 q3 q4 q5 q6 q7 q8 HX1 HB1 HY1 hh2 hKK
  simp only [Hd.cells]
  have x := fun i => Bx.f HX2.out i
  have x0 := x 0
  have x1 := x 1
  have x2 := x 2
  have x3 := x 3
  have x4 := x 4
  have x5 := x 5
  have x6 := x 6
  have x7 := x 7
  have x8 := x 8
  clear x
  obtain ⟨y0, y1, y2, y3, y4, y5, y6, y7, y8⟩ := HX2.out.nine
  obtain ⟨p0, p1, p2, p3, p4, p5, p6, p7, p8⟩ := HY2.out.nine
  have hl2 := HX2.out.lt
  have hm2 := HY2.out.lt
  go_wp2_with fail
  obtain ⟨W3, hW3⟩ : ∃ W3, W3 = setN w2 w.heap.size h2 (.slice A2 K.len c2) := ⟨_, rfl⟩
  have HX3 : Hid (Nx W3 w.heap.size h2 (.slice A2 K.len c2)) := Lib.hid (by rw [hW3]; exact HX2.out.setN _ _)
  have HY3 : Hid (Nx W3 (w.heap.size + 1) hb (.slice A' kb.len c')) := Lib.hid (by rw [hW3]; exact (setN_other (by omega)).trans HY2.out)
  have HB3 : Hid (Below w.heap.size w W3) := Lib.hid (by rw [hW3]; exact below_setN HB2.out (Nat.le_refl _) _ _)
  have HK3 : Hid (Kd (fun b => w.heap.size + 1 < b) W3 (.slice A2 K.len c2) K) := Lib.hid (by
    rw [hW3]
    exact HKd.out.kept (by rw [size_setN]; exact Nat.le_refl _) fun b hb _ => setN_other (by omega))
  simp only [setN] at hW3
  rw [← hW3]
  clear hW3 x0 x1 x2 x3 x4 x5 x6 x7 x8 y0 y1 y2 y3 y4 y5 y6 y7 y8 p0 p1 p2 p3 p4 p5 p6 p7 p8 HX2 HY2 HB2 HKd
  have hm3 := HY3.out.lt
  refine (Few_calls kb hb _ _ (HK'.out.below HB3.out) HU'.out).mono ?_
  rintro o w4 ⟨v4, rfl, hk4, hb4⟩
  obtain ⟨h4, hh4⟩ : ∃ h4, h4 = cutH hb := ⟨_, rfl⟩
  obtain ⟨L, hLL⟩ : ∃ L, L = fewK kb := ⟨_, rfl⟩
  rw [← hh4]
  rw [← hLL] at hk4
  have HX4 := Lib.hid (HX3.out.below hb4)
  have HY4 := Lib.hid (HY3.out.below hb4)
  have HB4 := Lib.hid (below_nx HB3.out hb4)
  have HK4 := Lib.hid (HK3.out.below hb4)
  have HL4 := Lib.hid (hk4.mono (Q := fun b => w.heap.size + 1 < b) fun b hb _ => Nat.lt_of_lt_of_le hm3 hb)
  obtain ⟨A4, c4, rfl, _, _, _⟩ := hk4.form
  clear hk4 hb4 HX3 HB3 HY3 hh4 hLL
  simp only [Hd.cells]
  have x := fun i => Bx.f HY4.out i
  have x0 := x 0
  have x1 := x 1
  have x2 := x 2
  have x3 := x 3
  have x4 := x 4
  have x5 := x 5
  have x6 := x 6
  have x7 := x 7
  have x8 := x 8
  clear x
  obtain ⟨y0, y1, y2, y3, y4, y5, y6, y7, y8⟩ := HY4.out.nine
  have hl4 := HX4.out.lt
  have hm4 := HY4.out.lt
  go_wp2_with fail
  obtain ⟨W5, hW5⟩ : ∃ W5, W5 = setN w4 (w.heap.size + 1) h4 (.slice A4 L.len c4) := ⟨_, rfl⟩
  have HY5 : Hid (Nx W5 (w.heap.size + 1) h4 (.slice A4 L.len c4)) := Lib.hid (by rw [hW5]; exact HY4.out.setN _ _)
  have HX5 : Hid (Nx W5 w.heap.size h2 (.slice A2 K.len c2)) := Lib.hid (by rw [hW5]; exact (setN_other (by omega)).trans HX4.out)
  have HB5 : Hid (Below w.heap.size w W5) := Lib.hid (by rw [hW5]; exact below_setN HB4.out (by omega) _ _)
  have HK5 : Hid (Kd An W5 (.slice A2 K.len c2) K) := Lib.hid (by
    rw [hW5]
    exact (HK4.out.kept (by rw [size_setN]; exact Nat.le_refl _) fun b hb _ => setN_other (by omega)).mono fun _ _ _ => trivial)
  have HL5 : Hid (Kd An W5 (.slice A4 L.len c4) L) := Lib.hid (by
    rw [hW5]
    exact (HL4.out.kept (by rw [size_setN]; exact Nat.le_refl _) fun b hb _ => setN_other (by omega)).mono fun _ _ _ => trivial)
  simp only [setN] at hW5
  rw [← hW5]
  clear hW5 x0 x1 x2 x3 x4 x5 x6 x7 x8 y0 y1 y2 y3 y4 y5 y6 y7 y8 HX4 HY4 HB4 HK4 HL4
  obtain ⟨Q, hQ⟩ : ∃ Q, Q = (sameH h2 h4 && sameF K L) := ⟨_, rfl⟩
  have HI : Hid (∀ W, Below W5.heap.size W5 W → Calls Tryz.prog 20 #[.agg (h2.cells (.slice A2 K.len c2)), .agg (h4.cells (.slice A4 L.len c4))] W (BolP Q W)) := Lib.hid (fun W hW => by rw [hQ]; exact Same_calls K L h2 h4 _ _ W (HK5.out.below hW) (HL5.out.below hW))
  have HR : Hid (∀ W, Below W5.heap.size W5 W → Calls Tryz.prog 21 #[.agg (h2.cells (.slice A2 K.len c2)), .agg (h4.cells (.slice A4 L.len c4))] W (BolP Q W)) := Lib.hid (fun W hW => by rw [hQ]; exact rSame_calls K L h2 h4 _ _ W (HK5.out.below hW) (HL5.out.below hW))
  have HJ : Hid (∀ W, Below W5.heap.size W5 W → Calls Tryz.prog 20 #[.agg (h4.cells (.slice A4 L.len c4)), .agg (h2.cells (.slice A2 K.len c2))] W (BolP Q W)) := Lib.hid (fun W hW => by rw [hQ, sameH_symm, sameF_symm]; exact Same_calls L K h4 h2 _ _ W (HL5.out.below hW) (HK5.out.below hW))
  have HS : Hid (∀ W, Below W5.heap.size W5 W → Calls Tryz.prog 20 #[.agg (h2.cells (.slice A2 K.len c2)), .agg (h2.cells (.slice A2 K.len c2))] W (BolP true W)) := Lib.hid (fun W hW => by
    have := Same_calls K K h2 h2 _ _ W (HK5.out.below hW) (HK5.out.below hW)
    rwa [few_same_h, same_refl] at this)
  simp only [Hd.cells] at HI HR HJ HS
  clear hQ HK5 HL5
  have HBd : Hid (Below W5.heap.size W5 W5.drew) := Lib.hid (Below.refl _ _).drew
  have HP : Hid (∀ W, Below W5.heap.size W5 W → BolP true w (.returned (.bool true)) W) := Lib.hid (fun W hW => ⟨rfl, below_nx HB5.out hW⟩)
  cases Q with
  | true =>
    go_region_held3 (fun w' => (w'.cell? ⟨w.heap.size, 0, none⟩ = some (.int .i64 h2.kind) ∧ w'.cell? ⟨w.heap.size, 1, none⟩ = some (.bool h2.b) ∧ w'.cell? ⟨w.heap.size, 2, none⟩ = some (.bool h2.neg) ∧ w'.cell? ⟨w.heap.size, 3, none⟩ = some (.string h2.dig) ∧ w'.cell? ⟨w.heap.size, 4, none⟩ = some (.int .i64 h2.exp) ∧ w'.cell? ⟨w.heap.size, 5, none⟩ = some (.int .u64 (h2.u : Int)) ∧ w'.cell? ⟨w.heap.size, 6, none⟩ = some (.int .i64 h2.w) ∧ w'.cell? ⟨w.heap.size, 7, none⟩ = some (.string h2.s) ∧ w'.cell? ⟨w.heap.size, 8, none⟩ = some (.slice A2 K.len c2)) ∧ (w'.cell? ⟨w.heap.size + 1, 0, none⟩ = some (.int .i64 h4.kind) ∧ w'.cell? ⟨w.heap.size + 1, 1, none⟩ = some (.bool h4.b) ∧ w'.cell? ⟨w.heap.size + 1, 2, none⟩ = some (.bool h4.neg) ∧ w'.cell? ⟨w.heap.size + 1, 3, none⟩ = some (.string h4.dig) ∧ w'.cell? ⟨w.heap.size + 1, 4, none⟩ = some (.int .i64 h4.exp) ∧ w'.cell? ⟨w.heap.size + 1, 5, none⟩ = some (.int .u64 (h4.u : Int)) ∧ w'.cell? ⟨w.heap.size + 1, 6, none⟩ = some (.int .i64 h4.w) ∧ w'.cell? ⟨w.heap.size + 1, 7, none⟩ = some (.string h4.s) ∧ w'.cell? ⟨w.heap.size + 1, 8, none⟩ = some (.slice A4 L.len c4)))
      (exact ⟨(HX5.out.below HBd.out).nine, (HY5.out.below HBd.out).nine⟩)
      (first | (go_at_call 20; (with_reducible refine (HI.out _ HBd.out).mono ?_); rintro o w6 ⟨rfl, hb6⟩; replace HBd := Lib.hid (below_nx HBd.out hb6); clear hb6) | (go_at_call 20; (with_reducible refine (HJ.out _ HBd.out).mono ?_); rintro o w6 ⟨rfl, hb6⟩; replace HBd := Lib.hid (below_nx HBd.out hb6); clear hb6) | (go_at_call 20; (with_reducible refine (HS.out _ HBd.out).mono ?_); rintro o w6 ⟨rfl, hb6⟩; replace HBd := Lib.hid (below_nx HBd.out hb6); clear hb6) | (go_at_call 21; (with_reducible refine (HR.out _ HBd.out).mono ?_); rintro o w6 ⟨rfl, hb6⟩; replace HBd := Lib.hid (below_nx HBd.out hb6); clear hb6))
    all_goals go_wp2_with fail
    all_goals go_ret
    all_goals exact HP.out _ HBd.out
  | false =>
    go_region_held3 (fun w' => (w'.cell? ⟨w.heap.size, 0, none⟩ = some (.int .i64 h2.kind) ∧ w'.cell? ⟨w.heap.size, 1, none⟩ = some (.bool h2.b) ∧ w'.cell? ⟨w.heap.size, 2, none⟩ = some (.bool h2.neg) ∧ w'.cell? ⟨w.heap.size, 3, none⟩ = some (.string h2.dig) ∧ w'.cell? ⟨w.heap.size, 4, none⟩ = some (.int .i64 h2.exp) ∧ w'.cell? ⟨w.heap.size, 5, none⟩ = some (.int .u64 (h2.u : Int)) ∧ w'.cell? ⟨w.heap.size, 6, none⟩ = some (.int .i64 h2.w) ∧ w'.cell? ⟨w.heap.size, 7, none⟩ = some (.string h2.s) ∧ w'.cell? ⟨w.heap.size, 8, none⟩ = some (.slice A2 K.len c2)) ∧ (w'.cell? ⟨w.heap.size + 1, 0, none⟩ = some (.int .i64 h4.kind) ∧ w'.cell? ⟨w.heap.size + 1, 1, none⟩ = some (.bool h4.b) ∧ w'.cell? ⟨w.heap.size + 1, 2, none⟩ = some (.bool h4.neg) ∧ w'.cell? ⟨w.heap.size + 1, 3, none⟩ = some (.string h4.dig) ∧ w'.cell? ⟨w.heap.size + 1, 4, none⟩ = some (.int .i64 h4.exp) ∧ w'.cell? ⟨w.heap.size + 1, 5, none⟩ = some (.int .u64 (h4.u : Int)) ∧ w'.cell? ⟨w.heap.size + 1, 6, none⟩ = some (.int .i64 h4.w) ∧ w'.cell? ⟨w.heap.size + 1, 7, none⟩ = some (.string h4.s) ∧ w'.cell? ⟨w.heap.size + 1, 8, none⟩ = some (.slice A4 L.len c4)))
      (exact ⟨(HX5.out.below HBd.out).nine, (HY5.out.below HBd.out).nine⟩)
      (first | (go_at_call 20; (with_reducible refine (HI.out _ HBd.out).mono ?_); rintro o w6 ⟨rfl, hb6⟩; replace HBd := Lib.hid (below_nx HBd.out hb6); clear hb6) | (go_at_call 20; (with_reducible refine (HJ.out _ HBd.out).mono ?_); rintro o w6 ⟨rfl, hb6⟩; replace HBd := Lib.hid (below_nx HBd.out hb6); clear hb6) | (go_at_call 20; (with_reducible refine (HS.out _ HBd.out).mono ?_); rintro o w6 ⟨rfl, hb6⟩; replace HBd := Lib.hid (below_nx HBd.out hb6); clear hb6) | (go_at_call 21; (with_reducible refine (HR.out _ HBd.out).mono ?_); rintro o w6 ⟨rfl, hb6⟩; replace HBd := Lib.hid (below_nx HBd.out hb6); clear hb6))
    all_goals go_wp2_with fail
    all_goals go_ret
    all_goals exact HP.out _ HBd.out
end Go.Proofs.YtcofhgdfoamhpaaGreatDoor
