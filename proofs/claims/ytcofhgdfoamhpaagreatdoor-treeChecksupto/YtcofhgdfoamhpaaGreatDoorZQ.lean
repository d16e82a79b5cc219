/- The law TreeChecks, of trees of at most so many nodes. -/
import Derived.Test.YtcofhgdfoamhpaaGreatDoorZO
import Derived.Test.YtcofhgdfoamhpaaGreatDoorZR
import Derived.Deep.RegionHeld3
namespace Go.Proofs.YtcofhgdfoamhpaaGreatDoor
open Go.RowKit

set_option maxRecDepth 100000 in
set_option maxHeartbeats 2000000 in
theorem checks_calls (h : Hd) (k : Fo) (v : Value) (n : Int) (w : World) (hT : Tq w) (hk : Kd An w v k) (hu : h.u < 18446744073709551616) (hcn : k.cnt ≤ 1048576) : Calls Tryz.prog 3 #[.agg (h.cells v), .int .i64 n] w (BolP true w) := by
  obtain ⟨A, c, rfl, _, _, _⟩ := hk.form
  have HT := Lib.hid hT
  have HK := Lib.hid hk
  have HU := Lib.hid hu
  have HCn := Lib.hid hcn
  clear hT hk hu hcn
  simp only [Hd.cells]
  go_enter Tryz.func3, Tryz.ntmps3
  go_wp2_with fail
  refine (shown_calls _ (HT.out.below (below_a (Below.refl _ _) _))).mono ?_
  rintro o w1 ⟨rfl, hb1⟩
  have HX1 := Lib.hid ((Nx.new w h (.slice A k.len c)).below hb1)
  have HB1 := Lib.hid (below_nx (below_a (Below.refl _ _) _) hb1)
  clear hb1
  obtain ⟨q0, q1, q2, q3, q4, q5, q6, q7, q8⟩ := HX1.out.nine
  have hl1 := HX1.out.lt
  go_wp2_with fail
  refine (Few_calls k h _ _ (HK.out.below HB1.out) HU.out).mono ?_
  rintro o w2 ⟨v2, rfl, hk2, hb2⟩
  obtain ⟨h2, hh2⟩ : ∃ h2, h2 = cutH h := ⟨_, rfl⟩
  obtain ⟨K, hKK⟩ : ∃ K, K = fewK k := ⟨_, rfl⟩
  rw [← hh2]
  rw [← hKK] at hk2
  have HD : Hid (K.deep ≤ 17 ∧ AllG Gl K ∧ K.len ≤ 40 ∧ h2.u < 18446744073709551616) := Lib.hid (by rw [hKK, hh2]; exact ⟨few_deep k, few_gl k, few_len k, HU.out⟩)
  have HCk : Hid (K.cnt < 1000) := Lib.hid (by rw [hKK]; exact few_cnt HCn.out)
  have HG : Hid (AllG Gl (.cons h2 K .nil)) := Lib.hid (by
    have h1 : AllG Gl (.cons h2 K .nil) := allG_cons (gl_of HD.out.2.2.1) HD.out.2.1 trivial
    exact h1)
  have HX2 := Lib.hid (HX1.out.below hb2)
  have HB2 := Lib.hid (below_nx HB1.out hb2)
  have HKd := Lib.hid (hk2.mono (Q := fun b => w.heap.size < b) fun b hb _ => Nat.lt_of_lt_of_le hl1 hb)
  obtain ⟨A2, c2, rfl, _, _, _⟩ := hk2.form
  clear hk2 hb2 q0 q1 q2 q3 q4 q5 q6 q7 q8 HX1 HB1 hh2 hKK
  simp only [Hd.cells]
  have x := fun i => Bx.f HX2.out i
  have x0 := x 0
  have x1 := x 1
  have x2 := x 2
  have x3 := x 3
  have x4 := x 4
  have x5 := x 5
  have x6 := x 6
  have x7 := x 7
  have x8 := x 8
  clear x
  obtain ⟨y0, y1, y2, y3, y4, y5, y6, y7, y8⟩ := HX2.out.nine
  have hl2 := HX2.out.lt
  go_wp2_with fail
  obtain ⟨W3, hW3⟩ : ∃ W3, W3 = setN w2 w.heap.size h2 (.slice A2 K.len c2) := ⟨_, rfl⟩
  have HX : Hid (Nx W3 w.heap.size h2 (.slice A2 K.len c2)) := Lib.hid (by rw [hW3]; exact HX2.out.setN _ _)
  have HB : Hid (Below w.heap.size w W3) := Lib.hid (by rw [hW3]; exact below_setN HB2.out (Nat.le_refl _) _ _)
  have HKK : Hid (Kd An W3 (.slice A2 K.len c2) K) := Lib.hid (by
    rw [hW3]
    exact (HKd.out.kept (by rw [size_setN]; exact Nat.le_refl _) fun b hb _ => setN_other (Nat.ne_of_gt hb)).mono fun _ _ _ => trivial)
  simp only [setN] at hW3
  rw [← hW3]
  clear hW3 x0 x1 x2 x3 x4 x5 x6 x7 x8 y0 y1 y2 y3 y4 y5 y6 y7 y8 HX2 HB2 HKd
  obtain ⟨R, hR⟩ : ∃ R, R = rgt h2 K := ⟨_, rfl⟩
  obtain ⟨E, hE⟩ : ∃ E, E = chk n h2 K := ⟨_, rfl⟩
  obtain ⟨X, hX⟩ : ∃ X, X = wrap64 (1 + (K.cnt : Int)) := ⟨_, rfl⟩
  obtain ⟨D, hD⟩ : ∃ D : Nat, D = K.deep + 1 := ⟨_, rfl⟩
  have HT3 : Hid (Tq W3) := Lib.hid (HT.out.below HB.out)
  have C1 : Hid (∀ W, Below W3.heap.size W3 W → Calls Tryz.prog 12 #[.agg (h2.cells (.slice A2 K.len c2))] W (BolP R W)) := Lib.hid (fun W hW => by rw [hR]; exact Right_calls K h2 _ W (HT3.out.below hW) (HKK.out.below hW) HD.out.2.2.2 (by have := HD.out.1; omega) HG.out)
  have C2 : Hid (∀ W, Below W3.heap.size W3 W → Calls Tryz.prog 13 #[.agg (h2.cells (.slice A2 K.len c2))] W (BolP R W)) := Lib.hid (fun W hW => by rw [hR]; exact rTree_calls K h2 _ W (HKK.out.below hW) HG.out (by have := HD.out.1; omega) (by have := HCk.out; omega))
  have C3 : Hid (∀ W, Below W3.heap.size W3 W → Calls Tryz.prog 14 #[.agg (h2.cells (.slice A2 K.len c2)), .int .i64 n] W fun o w' => o = .returned (.int .i64 E) ∧ Below W.heap.size W w') := Lib.hid (fun W hW => by rw [hE]; exact Check_calls n K h2 _ W (HT3.out.below hW) (HKK.out.below hW) HD.out.2.2.2 (by have := HD.out.1; omega) HG.out)
  have C4 : Hid (∀ W, Below W3.heap.size W3 W → Calls Tryz.prog 15 #[.agg (h2.cells (.slice A2 K.len c2)), .int .i64 n] W fun o w' => o = .returned (.int .i64 E) ∧ Below W.heap.size W w') := Lib.hid (fun W hW => by rw [hE]; exact rCheck_calls n K h2 _ W (HKK.out.below hW) HD.out.2.2.2 HG.out (by have := HD.out.1; omega) (by have := HCk.out; omega))
  have C5 : Hid (∀ W, Below W3.heap.size W3 W → Calls Tryz.prog 16 #[.agg (h2.cells (.slice A2 K.len c2))] W fun o w' => o = .returned (.int .i64 X) ∧ Below W.heap.size W w') := Lib.hid (fun W hW => by rw [hX]; exact Count_calls K h2 _ W (HKK.out.below hW) HD.out.2.2.2 (by have := HD.out.1; omega))
  have C6 : Hid (∀ W, Below W3.heap.size W3 W → Calls Tryz.prog 17 #[.agg (h2.cells (.slice A2 K.len c2))] W fun o w' => o = .returned (.int .i64 X) ∧ Below W.heap.size W w') := Lib.hid (fun W hW => by rw [hX]; exact rCount_calls K h2 _ W (HKK.out.below hW))
  have C7 : Hid (∀ W, Below W3.heap.size W3 W → Calls Tryz.prog 18 #[.agg (h2.cells (.slice A2 K.len c2))] W fun o w' => o = .returned (.int .i64 (D : Int)) ∧ Below W.heap.size W w') := Lib.hid (fun W hW => by rw [hD]; exact Depth_calls K h2 _ W (HKK.out.below hW) HD.out.2.2.2 (by have := HD.out.1; omega))
  have C8 : Hid (∀ W, Below W3.heap.size W3 W → Calls Tryz.prog 19 #[.agg (h2.cells (.slice A2 K.len c2))] W fun o w' => o = .returned (.int .i64 (D : Int)) ∧ Below W.heap.size W w') := Lib.hid (fun W hW => by rw [hD]; exact rDepth_calls K h2 _ W (by have := HD.out.1; omega) (HKK.out.below hW))
  simp only [Hd.cells] at C1 C2 C3 C4 C5 C6 C7 C8
  have HP : Hid (∀ W, Below W3.heap.size W3 W → BolP true w (.returned (.bool true)) W) := Lib.hid (fun W hW => ⟨rfl, below_nx HB.out hW⟩)
  have HBd : Hid (Below W3.heap.size W3 W3.drew) := Lib.hid (Below.refl _ _).drew
  clear hR hE hX hD HKK HG HD HCk HCn HT3 HB
  cases R with
  | true =>
    go_region_held3 (fun w' => w'.cell? ⟨w.heap.size, 0, none⟩ = some (.int .i64 h2.kind) ∧ w'.cell? ⟨w.heap.size, 1, none⟩ = some (.bool h2.b) ∧ w'.cell? ⟨w.heap.size, 2, none⟩ = some (.bool h2.neg) ∧ w'.cell? ⟨w.heap.size, 3, none⟩ = some (.string h2.dig) ∧ w'.cell? ⟨w.heap.size, 4, none⟩ = some (.int .i64 h2.exp) ∧ w'.cell? ⟨w.heap.size, 5, none⟩ = some (.int .u64 (h2.u : Int)) ∧ w'.cell? ⟨w.heap.size, 6, none⟩ = some (.int .i64 h2.w) ∧ w'.cell? ⟨w.heap.size, 7, none⟩ = some (.string h2.s) ∧ w'.cell? ⟨w.heap.size, 8, none⟩ = some (.slice A2 K.len c2))
      (exact (HX.out.below HBd.out).nine)
      (first | (go_at_call 12; (with_reducible refine (C1.out _ HBd.out).mono ?_); rintro o w6 ⟨rfl, hb6⟩; replace HBd := Lib.hid (below_nx HBd.out hb6); clear hb6) | (go_at_call 13; (with_reducible refine (C2.out _ HBd.out).mono ?_); rintro o w6 ⟨rfl, hb6⟩; replace HBd := Lib.hid (below_nx HBd.out hb6); clear hb6) | (go_at_call 14; (with_reducible refine (C3.out _ HBd.out).mono ?_); rintro o w6 ⟨rfl, hb6⟩; replace HBd := Lib.hid (below_nx HBd.out hb6); clear hb6) | (go_at_call 15; (with_reducible refine (C4.out _ HBd.out).mono ?_); rintro o w6 ⟨rfl, hb6⟩; replace HBd := Lib.hid (below_nx HBd.out hb6); clear hb6) | (go_at_call 16; (with_reducible refine (C5.out _ HBd.out).mono ?_); rintro o w6 ⟨rfl, hb6⟩; replace HBd := Lib.hid (below_nx HBd.out hb6); clear hb6) | (go_at_call 17; (with_reducible refine (C6.out _ HBd.out).mono ?_); rintro o w6 ⟨rfl, hb6⟩; replace HBd := Lib.hid (below_nx HBd.out hb6); clear hb6) | (go_at_call 18; (with_reducible refine (C7.out _ HBd.out).mono ?_); rintro o w6 ⟨rfl, hb6⟩; replace HBd := Lib.hid (below_nx HBd.out hb6); clear hb6) | (go_at_call 19; (with_reducible refine (C8.out _ HBd.out).mono ?_); rintro o w6 ⟨rfl, hb6⟩; replace HBd := Lib.hid (below_nx HBd.out hb6); clear hb6))
    all_goals go_wp2_with fail
    all_goals go_ret
    all_goals exact HP.out _ HBd.out
  | false =>
    go_region_held3 (fun w' => w'.cell? ⟨w.heap.size, 0, none⟩ = some (.int .i64 h2.kind) ∧ w'.cell? ⟨w.heap.size, 1, none⟩ = some (.bool h2.b) ∧ w'.cell? ⟨w.heap.size, 2, none⟩ = some (.bool h2.neg) ∧ w'.cell? ⟨w.heap.size, 3, none⟩ = some (.string h2.dig) ∧ w'.cell? ⟨w.heap.size, 4, none⟩ = some (.int .i64 h2.exp) ∧ w'.cell? ⟨w.heap.size, 5, none⟩ = some (.int .u64 (h2.u : Int)) ∧ w'.cell? ⟨w.heap.size, 6, none⟩ = some (.int .i64 h2.w) ∧ w'.cell? ⟨w.heap.size, 7, none⟩ = some (.string h2.s) ∧ w'.cell? ⟨w.heap.size, 8, none⟩ = some (.slice A2 K.len c2))
      (exact (HX.out.below HBd.out).nine)
      (first | (go_at_call 12; (with_reducible refine (C1.out _ HBd.out).mono ?_); rintro o w6 ⟨rfl, hb6⟩; replace HBd := Lib.hid (below_nx HBd.out hb6); clear hb6) | (go_at_call 13; (with_reducible refine (C2.out _ HBd.out).mono ?_); rintro o w6 ⟨rfl, hb6⟩; replace HBd := Lib.hid (below_nx HBd.out hb6); clear hb6) | (go_at_call 14; (with_reducible refine (C3.out _ HBd.out).mono ?_); rintro o w6 ⟨rfl, hb6⟩; replace HBd := Lib.hid (below_nx HBd.out hb6); clear hb6) | (go_at_call 15; (with_reducible refine (C4.out _ HBd.out).mono ?_); rintro o w6 ⟨rfl, hb6⟩; replace HBd := Lib.hid (below_nx HBd.out hb6); clear hb6) | (go_at_call 16; (with_reducible refine (C5.out _ HBd.out).mono ?_); rintro o w6 ⟨rfl, hb6⟩; replace HBd := Lib.hid (below_nx HBd.out hb6); clear hb6) | (go_at_call 17; (with_reducible refine (C6.out _ HBd.out).mono ?_); rintro o w6 ⟨rfl, hb6⟩; replace HBd := Lib.hid (below_nx HBd.out hb6); clear hb6) | (go_at_call 18; (with_reducible refine (C7.out _ HBd.out).mono ?_); rintro o w6 ⟨rfl, hb6⟩; replace HBd := Lib.hid (below_nx HBd.out hb6); clear hb6) | (go_at_call 19; (with_reducible refine (C8.out _ HBd.out).mono ?_); rintro o w6 ⟨rfl, hb6⟩; replace HBd := Lib.hid (below_nx HBd.out hb6); clear hb6))
    all_goals go_wp2_with fail
    all_goals go_ret
    all_goals exact HP.out _ HBd.out
end Go.Proofs.YtcofhgdfoamhpaaGreatDoor
