/- The document's own: fits, of nodes that have nodes. -/
import Derived.Test.YtcofhgdfoamhpaaGreatDoorZK
import Derived.Test.YtcofhgdfoamhpaaGreatDoorZG
namespace Go.Proofs.YtcofhgdfoamhpaaGreatDoor
open Go.RowKit

set_option maxRecDepth 100000 in
set_option maxHeartbeats 3000000 in
theorem rFits_7_in (h : Hd) (k : Fo) (v : Value) (n : Int) (w : World) (hk : Kd An w v k) (hK : h.kind = 7) (h1 : 1 ≤ n) (h4 : n ≤ 4)
    (hI : ∀ (j : Nat) (h' : Hd) (k' r : Fo) (v' : Value) (W : World), k.drop j = .cons h' k' r → Below w.heap.size w W → Kd An w v' k' → h'.u < 18446744073709551616 → Calls Tryz.prog 30 #[.agg (h'.cells v'), .int .i64 n] W (BolP (fitAll (frmOf n) (.cons h' k' .nil)) W)) :
    Calls Tryz.prog 30 #[.agg (h.cells v), .int .i64 n] w (BolP (fitAll (frmOf n) (.cons h k .nil)) w) := by
  obtain ⟨A, c, rfl, hc, hl, hL⟩ := hk.form
  obtain ⟨F, hF⟩ : ∃ F, F = frmOf n := ⟨_, rfl⟩
  have HFin : Hid (fitAll F (.cons h k .nil) = (true && fitAll F k)) := Lib.hid (by
    have e : fitN F h k = true := by
      have hn : n = 1 ∨ n = 2 ∨ n = 3 ∨ n = 4 := by omega
      rw [hF, fitN, hK]
      rcases hn with rfl | rfl | rfl | rfl <;> simp [frmOf, hasB]
    simp [fitAll, e])
  rw [← hF] at hI
  have HI := Lib.hid hI
  have HL := Lib.hid hL
  clear hk hL hI hc
  rw [← hF]
  clear hF
  rcases h with ⟨kd, b, neg, dig, exp, u, wd, s⟩
  obtain rfl : kd = 7 := hK
  have HX := Lib.hid (Nx.new w ⟨7, b, neg, dig, exp, u, wd, s⟩ (.slice A k.len c))
  have HB := Lib.hid (below_a (Below.refl _ w) (.cells ((⟨7, b, neg, dig, exp, u, wd, s⟩ : Hd).cells (.slice A k.len c)) 27))
  simp only [Hd.cells]
  go_enter Tryz.func30, Tryz.ntmps30
  go_wp2_with fail
  go_loopw [5, 12] (fun x i wr => ∃ j : Nat, i = .int .i64 j ∧ j ≤ k.len ∧ x = .bool (true && fitAll F (k.take j)) ∧ Below w.heap.size w wr ∧ Nx wr w.heap.size ⟨7, b, neg, dig, exp, u, wd, s⟩ (.slice A k.len c)) (fun _ i _ => k.len - (intOf i).toNat)
  case atStart => exact ⟨0, rfl, Nat.zero_le _, by simp [Fo.take, fitAll], HB.out, HX.out⟩
  case round =>
    obtain ⟨j, rfl, hj, rfl, hb, hbx⟩ := hrel
    have HB3 := Lib.hid hb
    have HX3 := Lib.hid hbx
    have c8 := hbx.c8
    clear hb hbx HB HX
    by_cases hgo : j < k.len
    · obtain ⟨B, o, rfl, hB, _, hLi⟩ := HL.out (by omega)
      obtain ⟨h', k', r, hd⟩ := drop_cons hgo
      have hLj := lies_drop j hLi
      rw [hd] at hLj
      obtain ⟨⟨v', hc', hk'⟩, hu', _⟩ := lies_cons.1 hLj
      obtain ⟨Q, hQ⟩ : ∃ Q, Q = fitAll F (.cons h' k' .nil) := ⟨_, rfl⟩
      have HC : Hid (∀ W, Below w.heap.size w W → Calls Tryz.prog 30 #[.agg (h'.cells v'), .int .i64 n] W (BolP Q W)) := Lib.hid (fun W hW => by rw [hQ]; exact HI.out j h' k' r v' W hd hW hk' hu')
      obtain ⟨P, hP⟩ : ∃ P, P = (true && fitAll F (k.take j)) := ⟨_, rfl⟩
      have HE : Hid ((true && fitAll F (k.take (j + 1))) = (P && Q)) := Lib.hid (by rw [take_app j k hd, fitAll_app, ← Bool.and_assoc, ← hP, hQ])
      rw [← hP]
      obtain ⟨d0, d1, d2, d3, d4, d5, d6, d7, d8⟩ := (hc'.below HB3.out).nine
      clear hLi hLj hc' hk' hd hu' hQ hP
      cases P with
      | true =>
        go_wp2_with fail
        refine (HC.out _ HB3.out).mono ?_
        rintro e w4 ⟨rfl, hb4⟩
        have HB4 := Lib.hid (below_nx HB3.out hb4)
        have HX4 := Lib.hid (HX3.out.below hb4)
        clear hb4 d0 d1 d2 d3 d4 d5 d6 d7 d8 c8
        go_wp2_with fail
        go_roundw
        case rel => exact ⟨j + 1, by go_num, hgo, by rw [HE.out, Bool.true_and], HB4.out, HX4.out⟩
        case measure => simp [intOf]; omega
      | false =>
        clear d0 d1 d2 d3 d4 d5 d6 d7 d8
        go_wp2_with fail
        go_roundw
        case rel => exact ⟨j + 1, by go_num, hgo, by rw [HE.out, Bool.false_and], HB3.out, HX3.out⟩
        case measure => simp [intOf]; omega
    · have HE : Hid (k.take j = k) := Lib.hid (by rw [show j = k.len by omega, take_all])
      go_wp2_with fail
      go_ret
      exact ⟨by rw [HFin.out]; show Ending.returned (Value.bool (true && fitAll F (k.take j))) = _; rw [HE.out], HB3.out⟩
set_option maxRecDepth 100000 in
set_option maxHeartbeats 3000000 in
theorem rFits_7_lo (h : Hd) (k : Fo) (v : Value) (n : Int) (w : World) (hk : Kd An w v k) (hK : h.kind = 7) (g1 : ¬ (1 : Int) ≤ n)
    (hI : ∀ (j : Nat) (h' : Hd) (k' r : Fo) (v' : Value) (W : World), k.drop j = .cons h' k' r → Below w.heap.size w W → Kd An w v' k' → h'.u < 18446744073709551616 → Calls Tryz.prog 30 #[.agg (h'.cells v'), .int .i64 n] W (BolP (fitAll (frmOf n) (.cons h' k' .nil)) W)) :
    Calls Tryz.prog 30 #[.agg (h.cells v), .int .i64 n] w (BolP (fitAll (frmOf n) (.cons h k .nil)) w) := by
  obtain ⟨A, c, rfl, hc, hl, hL⟩ := hk.form
  obtain ⟨F, hF⟩ : ∃ F, F = frmOf n := ⟨_, rfl⟩
  have HFin : Hid (fitAll F (.cons h k .nil) = (false && fitAll F k)) := Lib.hid (by
    have e : fitN F h k = false := by
      rw [hF, frm_no (by omega), fitN, hasB_0, Bool.false_and]
    simp [fitAll, e])
  rw [← hF] at hI
  have HI := Lib.hid hI
  have HL := Lib.hid hL
  clear hk hL hI hc
  rw [← hF]
  clear hF
  rcases h with ⟨kd, b, neg, dig, exp, u, wd, s⟩
  obtain rfl : kd = 7 := hK
  have HX := Lib.hid (Nx.new w ⟨7, b, neg, dig, exp, u, wd, s⟩ (.slice A k.len c))
  have HB := Lib.hid (below_a (Below.refl _ w) (.cells ((⟨7, b, neg, dig, exp, u, wd, s⟩ : Hd).cells (.slice A k.len c)) 27))
  simp only [Hd.cells]
  go_enter Tryz.func30, Tryz.ntmps30
  go_wp2_with fail
  go_loopw [5, 12] (fun x i wr => ∃ j : Nat, i = .int .i64 j ∧ j ≤ k.len ∧ x = .bool (false && fitAll F (k.take j)) ∧ Below w.heap.size w wr ∧ Nx wr w.heap.size ⟨7, b, neg, dig, exp, u, wd, s⟩ (.slice A k.len c)) (fun _ i _ => k.len - (intOf i).toNat)
  case atStart => exact ⟨0, rfl, Nat.zero_le _, by simp [Fo.take, fitAll], HB.out, HX.out⟩
  case round =>
    obtain ⟨j, rfl, hj, rfl, hb, hbx⟩ := hrel
    have HB3 := Lib.hid hb
    have HX3 := Lib.hid hbx
    have c8 := hbx.c8
    clear hb hbx HB HX
    by_cases hgo : j < k.len
    · obtain ⟨B, o, rfl, hB, _, hLi⟩ := HL.out (by omega)
      obtain ⟨h', k', r, hd⟩ := drop_cons hgo
      have hLj := lies_drop j hLi
      rw [hd] at hLj
      obtain ⟨⟨v', hc', hk'⟩, hu', _⟩ := lies_cons.1 hLj
      obtain ⟨Q, hQ⟩ : ∃ Q, Q = fitAll F (.cons h' k' .nil) := ⟨_, rfl⟩
      have HC : Hid (∀ W, Below w.heap.size w W → Calls Tryz.prog 30 #[.agg (h'.cells v'), .int .i64 n] W (BolP Q W)) := Lib.hid (fun W hW => by rw [hQ]; exact HI.out j h' k' r v' W hd hW hk' hu')
      obtain ⟨P, hP⟩ : ∃ P, P = (false && fitAll F (k.take j)) := ⟨_, rfl⟩
      have HE : Hid ((false && fitAll F (k.take (j + 1))) = (P && Q)) := Lib.hid (by rw [take_app j k hd, fitAll_app, ← Bool.and_assoc, ← hP, hQ])
      rw [← hP]
      obtain ⟨d0, d1, d2, d3, d4, d5, d6, d7, d8⟩ := (hc'.below HB3.out).nine
      clear hLi hLj hc' hk' hd hu' hQ hP
      cases P with
      | true =>
        go_wp2_with fail
        refine (HC.out _ HB3.out).mono ?_
        rintro e w4 ⟨rfl, hb4⟩
        have HB4 := Lib.hid (below_nx HB3.out hb4)
        have HX4 := Lib.hid (HX3.out.below hb4)
        clear hb4 d0 d1 d2 d3 d4 d5 d6 d7 d8 c8
        go_wp2_with fail
        go_roundw
        case rel => exact ⟨j + 1, by go_num, hgo, by rw [HE.out, Bool.true_and], HB4.out, HX4.out⟩
        case measure => simp [intOf]; omega
      | false =>
        clear d0 d1 d2 d3 d4 d5 d6 d7 d8
        go_wp2_with fail
        go_roundw
        case rel => exact ⟨j + 1, by go_num, hgo, by rw [HE.out, Bool.false_and], HB3.out, HX3.out⟩
        case measure => simp [intOf]; omega
    · have HE : Hid (k.take j = k) := Lib.hid (by rw [show j = k.len by omega, take_all])
      go_wp2_with fail
      go_ret
      exact ⟨by rw [HFin.out]; show Ending.returned (Value.bool (false && fitAll F (k.take j))) = _; rw [HE.out], HB3.out⟩
set_option maxRecDepth 100000 in
set_option maxHeartbeats 3000000 in
theorem rFits_7_hi (h : Hd) (k : Fo) (v : Value) (n : Int) (w : World) (hk : Kd An w v k) (hK : h.kind = 7) (g1 : (1 : Int) ≤ n) (g2 : ¬ n ≤ 4)
    (hI : ∀ (j : Nat) (h' : Hd) (k' r : Fo) (v' : Value) (W : World), k.drop j = .cons h' k' r → Below w.heap.size w W → Kd An w v' k' → h'.u < 18446744073709551616 → Calls Tryz.prog 30 #[.agg (h'.cells v'), .int .i64 n] W (BolP (fitAll (frmOf n) (.cons h' k' .nil)) W)) :
    Calls Tryz.prog 30 #[.agg (h.cells v), .int .i64 n] w (BolP (fitAll (frmOf n) (.cons h k .nil)) w) := by
  obtain ⟨A, c, rfl, hc, hl, hL⟩ := hk.form
  obtain ⟨F, hF⟩ : ∃ F, F = frmOf n := ⟨_, rfl⟩
  have HFin : Hid (fitAll F (.cons h k .nil) = (false && fitAll F k)) := Lib.hid (by
    have e : fitN F h k = false := by
      rw [hF, frm_no (by omega), fitN, hasB_0, Bool.false_and]
    simp [fitAll, e])
  rw [← hF] at hI
  have HI := Lib.hid hI
  have HL := Lib.hid hL
  clear hk hL hI hc
  rw [← hF]
  clear hF
  rcases h with ⟨kd, b, neg, dig, exp, u, wd, s⟩
  obtain rfl : kd = 7 := hK
  have HX := Lib.hid (Nx.new w ⟨7, b, neg, dig, exp, u, wd, s⟩ (.slice A k.len c))
  have HB := Lib.hid (below_a (Below.refl _ w) (.cells ((⟨7, b, neg, dig, exp, u, wd, s⟩ : Hd).cells (.slice A k.len c)) 27))
  simp only [Hd.cells]
  go_enter Tryz.func30, Tryz.ntmps30
  go_wp2_with fail
  go_loopw [5, 12] (fun x i wr => ∃ j : Nat, i = .int .i64 j ∧ j ≤ k.len ∧ x = .bool (false && fitAll F (k.take j)) ∧ Below w.heap.size w wr ∧ Nx wr w.heap.size ⟨7, b, neg, dig, exp, u, wd, s⟩ (.slice A k.len c)) (fun _ i _ => k.len - (intOf i).toNat)
  case atStart => exact ⟨0, rfl, Nat.zero_le _, by simp [Fo.take, fitAll], HB.out, HX.out⟩
  case round =>
    obtain ⟨j, rfl, hj, rfl, hb, hbx⟩ := hrel
    have HB3 := Lib.hid hb
    have HX3 := Lib.hid hbx
    have c8 := hbx.c8
    clear hb hbx HB HX
    by_cases hgo : j < k.len
    · obtain ⟨B, o, rfl, hB, _, hLi⟩ := HL.out (by omega)
      obtain ⟨h', k', r, hd⟩ := drop_cons hgo
      have hLj := lies_drop j hLi
      rw [hd] at hLj
      obtain ⟨⟨v', hc', hk'⟩, hu', _⟩ := lies_cons.1 hLj
      obtain ⟨Q, hQ⟩ : ∃ Q, Q = fitAll F (.cons h' k' .nil) := ⟨_, rfl⟩
      have HC : Hid (∀ W, Below w.heap.size w W → Calls Tryz.prog 30 #[.agg (h'.cells v'), .int .i64 n] W (BolP Q W)) := Lib.hid (fun W hW => by rw [hQ]; exact HI.out j h' k' r v' W hd hW hk' hu')
      obtain ⟨P, hP⟩ : ∃ P, P = (false && fitAll F (k.take j)) := ⟨_, rfl⟩
      have HE : Hid ((false && fitAll F (k.take (j + 1))) = (P && Q)) := Lib.hid (by rw [take_app j k hd, fitAll_app, ← Bool.and_assoc, ← hP, hQ])
      rw [← hP]
      obtain ⟨d0, d1, d2, d3, d4, d5, d6, d7, d8⟩ := (hc'.below HB3.out).nine
      clear hLi hLj hc' hk' hd hu' hQ hP
      cases P with
      | true =>
        go_wp2_with fail
        refine (HC.out _ HB3.out).mono ?_
        rintro e w4 ⟨rfl, hb4⟩
        have HB4 := Lib.hid (below_nx HB3.out hb4)
        have HX4 := Lib.hid (HX3.out.below hb4)
        clear hb4 d0 d1 d2 d3 d4 d5 d6 d7 d8 c8
        go_wp2_with fail
        go_roundw
        case rel => exact ⟨j + 1, by go_num, hgo, by rw [HE.out, Bool.true_and], HB4.out, HX4.out⟩
        case measure => simp [intOf]; omega
      | false =>
        clear d0 d1 d2 d3 d4 d5 d6 d7 d8
        go_wp2_with fail
        go_roundw
        case rel => exact ⟨j + 1, by go_num, hgo, by rw [HE.out, Bool.false_and], HB3.out, HX3.out⟩
        case measure => simp [intOf]; omega
    · have HE : Hid (k.take j = k) := Lib.hid (by rw [show j = k.len by omega, take_all])
      go_wp2_with fail
      go_ret
      exact ⟨by rw [HFin.out]; show Ending.returned (Value.bool (false && fitAll F (k.take j))) = _; rw [HE.out], HB3.out⟩
set_option maxRecDepth 100000 in
set_option maxHeartbeats 3000000 in
theorem rFits_9_1 (h : Hd) (k : Fo) (v : Value) (n : Int) (w : World) (hk : Kd An w v k) (hK : h.kind = 9) (hn : n = 1)
    (hI : ∀ (j : Nat) (h' : Hd) (k' r : Fo) (v' : Value) (W : World), k.drop j = .cons h' k' r → Below w.heap.size w W → Kd An w v' k' → h'.u < 18446744073709551616 → Calls Tryz.prog 30 #[.agg (h'.cells v'), .int .i64 n] W (BolP (fitAll (frmOf n) (.cons h' k' .nil)) W)) :
    Calls Tryz.prog 30 #[.agg (h.cells v), .int .i64 n] w (BolP (fitAll (frmOf n) (.cons h k .nil)) w) := by
  obtain ⟨A, c, rfl, hc, hl, hL⟩ := hk.form
  obtain ⟨F, hF⟩ : ∃ F, F = frmOf n := ⟨_, rfl⟩
  have HFin : Hid (fitAll F (.cons h k .nil) = (false && fitAll F k)) := Lib.hid (by
    have e : fitN F h k = false := by
      rw [hF, fitN, hK, hn]
      simp [frmOf, hasB]
    simp [fitAll, e])
  rw [← hF] at hI
  have HI := Lib.hid hI
  have HL := Lib.hid hL
  clear hk hL hI hc
  rw [← hF]
  clear hF
  rcases h with ⟨kd, b, neg, dig, exp, u, wd, s⟩
  obtain rfl : kd = 9 := hK
  have HX := Lib.hid (Nx.new w ⟨9, b, neg, dig, exp, u, wd, s⟩ (.slice A k.len c))
  have HB := Lib.hid (below_a (Below.refl _ w) (.cells ((⟨9, b, neg, dig, exp, u, wd, s⟩ : Hd).cells (.slice A k.len c)) 27))
  subst hn
  simp only [Hd.cells]
  go_enter Tryz.func30, Tryz.ntmps30
  go_wp2_with fail
  go_loopw [5, 12] (fun x i wr => ∃ j : Nat, i = .int .i64 j ∧ j ≤ k.len ∧ x = .bool (false && fitAll F (k.take j)) ∧ Below w.heap.size w wr ∧ Nx wr w.heap.size ⟨9, b, neg, dig, exp, u, wd, s⟩ (.slice A k.len c)) (fun _ i _ => k.len - (intOf i).toNat)
  case atStart => exact ⟨0, rfl, Nat.zero_le _, by simp [Fo.take, fitAll], HB.out, HX.out⟩
  case round =>
    obtain ⟨j, rfl, hj, rfl, hb, hbx⟩ := hrel
    have HB3 := Lib.hid hb
    have HX3 := Lib.hid hbx
    have c8 := hbx.c8
    clear hb hbx HB HX
    by_cases hgo : j < k.len
    · obtain ⟨B, o, rfl, hB, _, hLi⟩ := HL.out (by omega)
      obtain ⟨h', k', r, hd⟩ := drop_cons hgo
      have hLj := lies_drop j hLi
      rw [hd] at hLj
      obtain ⟨⟨v', hc', hk'⟩, hu', _⟩ := lies_cons.1 hLj
      obtain ⟨Q, hQ⟩ : ∃ Q, Q = fitAll F (.cons h' k' .nil) := ⟨_, rfl⟩
      have HC : Hid (∀ W, Below w.heap.size w W → Calls Tryz.prog 30 #[.agg (h'.cells v'), .int .i64 1] W (BolP Q W)) := Lib.hid (fun W hW => by rw [hQ]; exact HI.out j h' k' r v' W hd hW hk' hu')
      obtain ⟨P, hP⟩ : ∃ P, P = (false && fitAll F (k.take j)) := ⟨_, rfl⟩
      have HE : Hid ((false && fitAll F (k.take (j + 1))) = (P && Q)) := Lib.hid (by rw [take_app j k hd, fitAll_app, ← Bool.and_assoc, ← hP, hQ])
      rw [← hP]
      obtain ⟨d0, d1, d2, d3, d4, d5, d6, d7, d8⟩ := (hc'.below HB3.out).nine
      clear hLi hLj hc' hk' hd hu' hQ hP
      cases P with
      | true =>
        go_wp2_with fail
        refine (HC.out _ HB3.out).mono ?_
        rintro e w4 ⟨rfl, hb4⟩
        have HB4 := Lib.hid (below_nx HB3.out hb4)
        have HX4 := Lib.hid (HX3.out.below hb4)
        clear hb4 d0 d1 d2 d3 d4 d5 d6 d7 d8 c8
        go_wp2_with fail
        go_roundw
        case rel => exact ⟨j + 1, by go_num, hgo, by rw [HE.out, Bool.true_and], HB4.out, HX4.out⟩
        case measure => simp [intOf]; omega
      | false =>
        clear d0 d1 d2 d3 d4 d5 d6 d7 d8
        go_wp2_with fail
        go_roundw
        case rel => exact ⟨j + 1, by go_num, hgo, by rw [HE.out, Bool.false_and], HB3.out, HX3.out⟩
        case measure => simp [intOf]; omega
    · have HE : Hid (k.take j = k) := Lib.hid (by rw [show j = k.len by omega, take_all])
      go_wp2_with fail
      go_ret
      exact ⟨by rw [HFin.out]; show Ending.returned (Value.bool (false && fitAll F (k.take j))) = _; rw [HE.out], HB3.out⟩
set_option maxRecDepth 100000 in
set_option maxHeartbeats 3000000 in
theorem rFits_9_2 (h : Hd) (k : Fo) (v : Value) (n : Int) (w : World) (hk : Kd An w v k) (hK : h.kind = 9) (hn : n = 2)
    (hI : ∀ (j : Nat) (h' : Hd) (k' r : Fo) (v' : Value) (W : World), k.drop j = .cons h' k' r → Below w.heap.size w W → Kd An w v' k' → h'.u < 18446744073709551616 → Calls Tryz.prog 30 #[.agg (h'.cells v'), .int .i64 n] W (BolP (fitAll (frmOf n) (.cons h' k' .nil)) W)) :
    Calls Tryz.prog 30 #[.agg (h.cells v), .int .i64 n] w (BolP (fitAll (frmOf n) (.cons h k .nil)) w) := by
  obtain ⟨A, c, rfl, hc, hl, hL⟩ := hk.form
  obtain ⟨F, hF⟩ : ∃ F, F = frmOf n := ⟨_, rfl⟩
  have HFin : Hid (fitAll F (.cons h k .nil) = (true && fitAll F k)) := Lib.hid (by
    have e : fitN F h k = true := by
      rw [hF, fitN, hK, hn]
      simp [frmOf, hasB]
    simp [fitAll, e])
  rw [← hF] at hI
  have HI := Lib.hid hI
  have HL := Lib.hid hL
  clear hk hL hI hc
  rw [← hF]
  clear hF
  rcases h with ⟨kd, b, neg, dig, exp, u, wd, s⟩
  obtain rfl : kd = 9 := hK
  have HX := Lib.hid (Nx.new w ⟨9, b, neg, dig, exp, u, wd, s⟩ (.slice A k.len c))
  have HB := Lib.hid (below_a (Below.refl _ w) (.cells ((⟨9, b, neg, dig, exp, u, wd, s⟩ : Hd).cells (.slice A k.len c)) 27))
  subst hn
  simp only [Hd.cells]
  go_enter Tryz.func30, Tryz.ntmps30
  go_wp2_with fail
  go_loopw [5, 12] (fun x i wr => ∃ j : Nat, i = .int .i64 j ∧ j ≤ k.len ∧ x = .bool (true && fitAll F (k.take j)) ∧ Below w.heap.size w wr ∧ Nx wr w.heap.size ⟨9, b, neg, dig, exp, u, wd, s⟩ (.slice A k.len c)) (fun _ i _ => k.len - (intOf i).toNat)
  case atStart => exact ⟨0, rfl, Nat.zero_le _, by simp [Fo.take, fitAll], HB.out, HX.out⟩
  case round =>
    obtain ⟨j, rfl, hj, rfl, hb, hbx⟩ := hrel
    have HB3 := Lib.hid hb
    have HX3 := Lib.hid hbx
    have c8 := hbx.c8
    clear hb hbx HB HX
    by_cases hgo : j < k.len
    · obtain ⟨B, o, rfl, hB, _, hLi⟩ := HL.out (by omega)
      obtain ⟨h', k', r, hd⟩ := drop_cons hgo
      have hLj := lies_drop j hLi
      rw [hd] at hLj
      obtain ⟨⟨v', hc', hk'⟩, hu', _⟩ := lies_cons.1 hLj
      obtain ⟨Q, hQ⟩ : ∃ Q, Q = fitAll F (.cons h' k' .nil) := ⟨_, rfl⟩
      have HC : Hid (∀ W, Below w.heap.size w W → Calls Tryz.prog 30 #[.agg (h'.cells v'), .int .i64 2] W (BolP Q W)) := Lib.hid (fun W hW => by rw [hQ]; exact HI.out j h' k' r v' W hd hW hk' hu')
      obtain ⟨P, hP⟩ : ∃ P, P = (true && fitAll F (k.take j)) := ⟨_, rfl⟩
      have HE : Hid ((true && fitAll F (k.take (j + 1))) = (P && Q)) := Lib.hid (by rw [take_app j k hd, fitAll_app, ← Bool.and_assoc, ← hP, hQ])
      rw [← hP]
      obtain ⟨d0, d1, d2, d3, d4, d5, d6, d7, d8⟩ := (hc'.below HB3.out).nine
      clear hLi hLj hc' hk' hd hu' hQ hP
      cases P with
      | true =>
        go_wp2_with fail
        refine (HC.out _ HB3.out).mono ?_
        rintro e w4 ⟨rfl, hb4⟩
        have HB4 := Lib.hid (below_nx HB3.out hb4)
        have HX4 := Lib.hid (HX3.out.below hb4)
        clear hb4 d0 d1 d2 d3 d4 d5 d6 d7 d8 c8
        go_wp2_with fail
        go_roundw
        case rel => exact ⟨j + 1, by go_num, hgo, by rw [HE.out, Bool.true_and], HB4.out, HX4.out⟩
        case measure => simp [intOf]; omega
      | false =>
        clear d0 d1 d2 d3 d4 d5 d6 d7 d8
        go_wp2_with fail
        go_roundw
        case rel => exact ⟨j + 1, by go_num, hgo, by rw [HE.out, Bool.false_and], HB3.out, HX3.out⟩
        case measure => simp [intOf]; omega
    · have HE : Hid (k.take j = k) := Lib.hid (by rw [show j = k.len by omega, take_all])
      go_wp2_with fail
      go_ret
      exact ⟨by rw [HFin.out]; show Ending.returned (Value.bool (true && fitAll F (k.take j))) = _; rw [HE.out], HB3.out⟩
set_option maxRecDepth 100000 in
set_option maxHeartbeats 3000000 in
theorem rFits_9_3 (h : Hd) (k : Fo) (v : Value) (n : Int) (w : World) (hk : Kd An w v k) (hK : h.kind = 9) (hn : n = 3)
    (hI : ∀ (j : Nat) (h' : Hd) (k' r : Fo) (v' : Value) (W : World), k.drop j = .cons h' k' r → Below w.heap.size w W → Kd An w v' k' → h'.u < 18446744073709551616 → Calls Tryz.prog 30 #[.agg (h'.cells v'), .int .i64 n] W (BolP (fitAll (frmOf n) (.cons h' k' .nil)) W)) :
    Calls Tryz.prog 30 #[.agg (h.cells v), .int .i64 n] w (BolP (fitAll (frmOf n) (.cons h k .nil)) w) := by
  obtain ⟨A, c, rfl, hc, hl, hL⟩ := hk.form
  obtain ⟨F, hF⟩ : ∃ F, F = frmOf n := ⟨_, rfl⟩
  have HFin : Hid (fitAll F (.cons h k .nil) = (true && fitAll F k)) := Lib.hid (by
    have e : fitN F h k = true := by
      rw [hF, fitN, hK, hn]
      simp [frmOf, hasB]
    simp [fitAll, e])
  rw [← hF] at hI
  have HI := Lib.hid hI
  have HL := Lib.hid hL
  clear hk hL hI hc
  rw [← hF]
  clear hF
  rcases h with ⟨kd, b, neg, dig, exp, u, wd, s⟩
  obtain rfl : kd = 9 := hK
  have HX := Lib.hid (Nx.new w ⟨9, b, neg, dig, exp, u, wd, s⟩ (.slice A k.len c))
  have HB := Lib.hid (below_a (Below.refl _ w) (.cells ((⟨9, b, neg, dig, exp, u, wd, s⟩ : Hd).cells (.slice A k.len c)) 27))
  subst hn
  simp only [Hd.cells]
  go_enter Tryz.func30, Tryz.ntmps30
  go_wp2_with fail
  go_loopw [5, 12] (fun x i wr => ∃ j : Nat, i = .int .i64 j ∧ j ≤ k.len ∧ x = .bool (true && fitAll F (k.take j)) ∧ Below w.heap.size w wr ∧ Nx wr w.heap.size ⟨9, b, neg, dig, exp, u, wd, s⟩ (.slice A k.len c)) (fun _ i _ => k.len - (intOf i).toNat)
  case atStart => exact ⟨0, rfl, Nat.zero_le _, by simp [Fo.take, fitAll], HB.out, HX.out⟩
  case round =>
    obtain ⟨j, rfl, hj, rfl, hb, hbx⟩ := hrel
    have HB3 := Lib.hid hb
    have HX3 := Lib.hid hbx
    have c8 := hbx.c8
    clear hb hbx HB HX
    by_cases hgo : j < k.len
    · obtain ⟨B, o, rfl, hB, _, hLi⟩ := HL.out (by omega)
      obtain ⟨h', k', r, hd⟩ := drop_cons hgo
      have hLj := lies_drop j hLi
      rw [hd] at hLj
      obtain ⟨⟨v', hc', hk'⟩, hu', _⟩ := lies_cons.1 hLj
      obtain ⟨Q, hQ⟩ : ∃ Q, Q = fitAll F (.cons h' k' .nil) := ⟨_, rfl⟩
      have HC : Hid (∀ W, Below w.heap.size w W → Calls Tryz.prog 30 #[.agg (h'.cells v'), .int .i64 3] W (BolP Q W)) := Lib.hid (fun W hW => by rw [hQ]; exact HI.out j h' k' r v' W hd hW hk' hu')
      obtain ⟨P, hP⟩ : ∃ P, P = (true && fitAll F (k.take j)) := ⟨_, rfl⟩
      have HE : Hid ((true && fitAll F (k.take (j + 1))) = (P && Q)) := Lib.hid (by rw [take_app j k hd, fitAll_app, ← Bool.and_assoc, ← hP, hQ])
      rw [← hP]
      obtain ⟨d0, d1, d2, d3, d4, d5, d6, d7, d8⟩ := (hc'.below HB3.out).nine
      clear hLi hLj hc' hk' hd hu' hQ hP
      cases P with
      | true =>
        go_wp2_with fail
        refine (HC.out _ HB3.out).mono ?_
        rintro e w4 ⟨rfl, hb4⟩
        have HB4 := Lib.hid (below_nx HB3.out hb4)
        have HX4 := Lib.hid (HX3.out.below hb4)
        clear hb4 d0 d1 d2 d3 d4 d5 d6 d7 d8 c8
        go_wp2_with fail
        go_roundw
        case rel => exact ⟨j + 1, by go_num, hgo, by rw [HE.out, Bool.true_and], HB4.out, HX4.out⟩
        case measure => simp [intOf]; omega
      | false =>
        clear d0 d1 d2 d3 d4 d5 d6 d7 d8
        go_wp2_with fail
        go_roundw
        case rel => exact ⟨j + 1, by go_num, hgo, by rw [HE.out, Bool.false_and], HB3.out, HX3.out⟩
        case measure => simp [intOf]; omega
    · have HE : Hid (k.take j = k) := Lib.hid (by rw [show j = k.len by omega, take_all])
      go_wp2_with fail
      go_ret
      exact ⟨by rw [HFin.out]; show Ending.returned (Value.bool (true && fitAll F (k.take j))) = _; rw [HE.out], HB3.out⟩
set_option maxRecDepth 100000 in
set_option maxHeartbeats 3000000 in
theorem rFits_9_4 (h : Hd) (k : Fo) (v : Value) (n : Int) (w : World) (hk : Kd An w v k) (hK : h.kind = 9) (hn : n = 4)
    (hI : ∀ (j : Nat) (h' : Hd) (k' r : Fo) (v' : Value) (W : World), k.drop j = .cons h' k' r → Below w.heap.size w W → Kd An w v' k' → h'.u < 18446744073709551616 → Calls Tryz.prog 30 #[.agg (h'.cells v'), .int .i64 n] W (BolP (fitAll (frmOf n) (.cons h' k' .nil)) W)) :
    Calls Tryz.prog 30 #[.agg (h.cells v), .int .i64 n] w (BolP (fitAll (frmOf n) (.cons h k .nil)) w) := by
  obtain ⟨A, c, rfl, hc, hl, hL⟩ := hk.form
  obtain ⟨F, hF⟩ : ∃ F, F = frmOf n := ⟨_, rfl⟩
  have HFin : Hid (fitAll F (.cons h k .nil) = (false && fitAll F k)) := Lib.hid (by
    have e : fitN F h k = false := by
      rw [hF, fitN, hK, hn]
      simp [frmOf, hasB]
    simp [fitAll, e])
  rw [← hF] at hI
  have HI := Lib.hid hI
  have HL := Lib.hid hL
  clear hk hL hI hc
  rw [← hF]
  clear hF
  rcases h with ⟨kd, b, neg, dig, exp, u, wd, s⟩
  obtain rfl : kd = 9 := hK
  have HX := Lib.hid (Nx.new w ⟨9, b, neg, dig, exp, u, wd, s⟩ (.slice A k.len c))
  have HB := Lib.hid (below_a (Below.refl _ w) (.cells ((⟨9, b, neg, dig, exp, u, wd, s⟩ : Hd).cells (.slice A k.len c)) 27))
  subst hn
  simp only [Hd.cells]
  go_enter Tryz.func30, Tryz.ntmps30
  go_wp2_with fail
  go_loopw [5, 12] (fun x i wr => ∃ j : Nat, i = .int .i64 j ∧ j ≤ k.len ∧ x = .bool (false && fitAll F (k.take j)) ∧ Below w.heap.size w wr ∧ Nx wr w.heap.size ⟨9, b, neg, dig, exp, u, wd, s⟩ (.slice A k.len c)) (fun _ i _ => k.len - (intOf i).toNat)
  case atStart => exact ⟨0, rfl, Nat.zero_le _, by simp [Fo.take, fitAll], HB.out, HX.out⟩
  case round =>
    obtain ⟨j, rfl, hj, rfl, hb, hbx⟩ := hrel
    have HB3 := Lib.hid hb
    have HX3 := Lib.hid hbx
    have c8 := hbx.c8
    clear hb hbx HB HX
    by_cases hgo : j < k.len
    · obtain ⟨B, o, rfl, hB, _, hLi⟩ := HL.out (by omega)
      obtain ⟨h', k', r, hd⟩ := drop_cons hgo
      have hLj := lies_drop j hLi
      rw [hd] at hLj
      obtain ⟨⟨v', hc', hk'⟩, hu', _⟩ := lies_cons.1 hLj
      obtain ⟨Q, hQ⟩ : ∃ Q, Q = fitAll F (.cons h' k' .nil) := ⟨_, rfl⟩
      have HC : Hid (∀ W, Below w.heap.size w W → Calls Tryz.prog 30 #[.agg (h'.cells v'), .int .i64 4] W (BolP Q W)) := Lib.hid (fun W hW => by rw [hQ]; exact HI.out j h' k' r v' W hd hW hk' hu')
      obtain ⟨P, hP⟩ : ∃ P, P = (false && fitAll F (k.take j)) := ⟨_, rfl⟩
      have HE : Hid ((false && fitAll F (k.take (j + 1))) = (P && Q)) := Lib.hid (by rw [take_app j k hd, fitAll_app, ← Bool.and_assoc, ← hP, hQ])
      rw [← hP]
      obtain ⟨d0, d1, d2, d3, d4, d5, d6, d7, d8⟩ := (hc'.below HB3.out).nine
      clear hLi hLj hc' hk' hd hu' hQ hP
      cases P with
      | true =>
        go_wp2_with fail
        refine (HC.out _ HB3.out).mono ?_
        rintro e w4 ⟨rfl, hb4⟩
        have HB4 := Lib.hid (below_nx HB3.out hb4)
        have HX4 := Lib.hid (HX3.out.below hb4)
        clear hb4 d0 d1 d2 d3 d4 d5 d6 d7 d8 c8
        go_wp2_with fail
        go_roundw
        case rel => exact ⟨j + 1, by go_num, hgo, by rw [HE.out, Bool.true_and], HB4.out, HX4.out⟩
        case measure => simp [intOf]; omega
      | false =>
        clear d0 d1 d2 d3 d4 d5 d6 d7 d8
        go_wp2_with fail
        go_roundw
        case rel => exact ⟨j + 1, by go_num, hgo, by rw [HE.out, Bool.false_and], HB3.out, HX3.out⟩
        case measure => simp [intOf]; omega
    · have HE : Hid (k.take j = k) := Lib.hid (by rw [show j = k.len by omega, take_all])
      go_wp2_with fail
      go_ret
      exact ⟨by rw [HFin.out]; show Ending.returned (Value.bool (false && fitAll F (k.take j))) = _; rw [HE.out], HB3.out⟩
set_option maxRecDepth 100000 in
set_option maxHeartbeats 3000000 in
theorem rFits_9_lo (h : Hd) (k : Fo) (v : Value) (n : Int) (w : World) (hk : Kd An w v k) (hK : h.kind = 9) (g1 : ¬ (1 : Int) ≤ n)
    (hI : ∀ (j : Nat) (h' : Hd) (k' r : Fo) (v' : Value) (W : World), k.drop j = .cons h' k' r → Below w.heap.size w W → Kd An w v' k' → h'.u < 18446744073709551616 → Calls Tryz.prog 30 #[.agg (h'.cells v'), .int .i64 n] W (BolP (fitAll (frmOf n) (.cons h' k' .nil)) W)) :
    Calls Tryz.prog 30 #[.agg (h.cells v), .int .i64 n] w (BolP (fitAll (frmOf n) (.cons h k .nil)) w) := by
  obtain ⟨A, c, rfl, hc, hl, hL⟩ := hk.form
  obtain ⟨F, hF⟩ : ∃ F, F = frmOf n := ⟨_, rfl⟩
  have HFin : Hid (fitAll F (.cons h k .nil) = (false && fitAll F k)) := Lib.hid (by
    have e : fitN F h k = false := by
      rw [hF, frm_no (by omega), fitN, hasB_0, Bool.false_and]
    simp [fitAll, e])
  rw [← hF] at hI
  have HI := Lib.hid hI
  have HL := Lib.hid hL
  clear hk hL hI hc
  rw [← hF]
  clear hF
  rcases h with ⟨kd, b, neg, dig, exp, u, wd, s⟩
  obtain rfl : kd = 9 := hK
  have HX := Lib.hid (Nx.new w ⟨9, b, neg, dig, exp, u, wd, s⟩ (.slice A k.len c))
  have HB := Lib.hid (below_a (Below.refl _ w) (.cells ((⟨9, b, neg, dig, exp, u, wd, s⟩ : Hd).cells (.slice A k.len c)) 27))
  simp only [Hd.cells]
  go_enter Tryz.func30, Tryz.ntmps30
  go_wp2_with fail
  go_loopw [5, 12] (fun x i wr => ∃ j : Nat, i = .int .i64 j ∧ j ≤ k.len ∧ x = .bool (false && fitAll F (k.take j)) ∧ Below w.heap.size w wr ∧ Nx wr w.heap.size ⟨9, b, neg, dig, exp, u, wd, s⟩ (.slice A k.len c)) (fun _ i _ => k.len - (intOf i).toNat)
  case atStart => exact ⟨0, rfl, Nat.zero_le _, by simp [Fo.take, fitAll], HB.out, HX.out⟩
  case round =>
    obtain ⟨j, rfl, hj, rfl, hb, hbx⟩ := hrel
    have HB3 := Lib.hid hb
    have HX3 := Lib.hid hbx
    have c8 := hbx.c8
    clear hb hbx HB HX
    by_cases hgo : j < k.len
    · obtain ⟨B, o, rfl, hB, _, hLi⟩ := HL.out (by omega)
      obtain ⟨h', k', r, hd⟩ := drop_cons hgo
      have hLj := lies_drop j hLi
      rw [hd] at hLj
      obtain ⟨⟨v', hc', hk'⟩, hu', _⟩ := lies_cons.1 hLj
      obtain ⟨Q, hQ⟩ : ∃ Q, Q = fitAll F (.cons h' k' .nil) := ⟨_, rfl⟩
      have HC : Hid (∀ W, Below w.heap.size w W → Calls Tryz.prog 30 #[.agg (h'.cells v'), .int .i64 n] W (BolP Q W)) := Lib.hid (fun W hW => by rw [hQ]; exact HI.out j h' k' r v' W hd hW hk' hu')
      obtain ⟨P, hP⟩ : ∃ P, P = (false && fitAll F (k.take j)) := ⟨_, rfl⟩
      have HE : Hid ((false && fitAll F (k.take (j + 1))) = (P && Q)) := Lib.hid (by rw [take_app j k hd, fitAll_app, ← Bool.and_assoc, ← hP, hQ])
      rw [← hP]
      obtain ⟨d0, d1, d2, d3, d4, d5, d6, d7, d8⟩ := (hc'.below HB3.out).nine
      clear hLi hLj hc' hk' hd hu' hQ hP
      cases P with
      | true =>
        go_wp2_with fail
        refine (HC.out _ HB3.out).mono ?_
        rintro e w4 ⟨rfl, hb4⟩
        have HB4 := Lib.hid (below_nx HB3.out hb4)
        have HX4 := Lib.hid (HX3.out.below hb4)
        clear hb4 d0 d1 d2 d3 d4 d5 d6 d7 d8 c8
        go_wp2_with fail
        go_roundw
        case rel => exact ⟨j + 1, by go_num, hgo, by rw [HE.out, Bool.true_and], HB4.out, HX4.out⟩
        case measure => simp [intOf]; omega
      | false =>
        clear d0 d1 d2 d3 d4 d5 d6 d7 d8
        go_wp2_with fail
        go_roundw
        case rel => exact ⟨j + 1, by go_num, hgo, by rw [HE.out, Bool.false_and], HB3.out, HX3.out⟩
        case measure => simp [intOf]; omega
    · have HE : Hid (k.take j = k) := Lib.hid (by rw [show j = k.len by omega, take_all])
      go_wp2_with fail
      go_ret
      exact ⟨by rw [HFin.out]; show Ending.returned (Value.bool (false && fitAll F (k.take j))) = _; rw [HE.out], HB3.out⟩
set_option maxRecDepth 100000 in
set_option maxHeartbeats 3000000 in
theorem rFits_9_hi (h : Hd) (k : Fo) (v : Value) (n : Int) (w : World) (hk : Kd An w v k) (hK : h.kind = 9) (g1 : (1 : Int) ≤ n) (g2 : ¬ n ≤ 4)
    (hI : ∀ (j : Nat) (h' : Hd) (k' r : Fo) (v' : Value) (W : World), k.drop j = .cons h' k' r → Below w.heap.size w W → Kd An w v' k' → h'.u < 18446744073709551616 → Calls Tryz.prog 30 #[.agg (h'.cells v'), .int .i64 n] W (BolP (fitAll (frmOf n) (.cons h' k' .nil)) W)) :
    Calls Tryz.prog 30 #[.agg (h.cells v), .int .i64 n] w (BolP (fitAll (frmOf n) (.cons h k .nil)) w) := by
  obtain ⟨A, c, rfl, hc, hl, hL⟩ := hk.form
  obtain ⟨F, hF⟩ : ∃ F, F = frmOf n := ⟨_, rfl⟩
  have HFin : Hid (fitAll F (.cons h k .nil) = (false && fitAll F k)) := Lib.hid (by
    have e : fitN F h k = false := by
      rw [hF, frm_no (by omega), fitN, hasB_0, Bool.false_and]
    simp [fitAll, e])
  rw [← hF] at hI
  have HI := Lib.hid hI
  have HL := Lib.hid hL
  clear hk hL hI hc
  rw [← hF]
  clear hF
  rcases h with ⟨kd, b, neg, dig, exp, u, wd, s⟩
  obtain rfl : kd = 9 := hK
  have HX := Lib.hid (Nx.new w ⟨9, b, neg, dig, exp, u, wd, s⟩ (.slice A k.len c))
  have HB := Lib.hid (below_a (Below.refl _ w) (.cells ((⟨9, b, neg, dig, exp, u, wd, s⟩ : Hd).cells (.slice A k.len c)) 27))
  simp only [Hd.cells]
  go_enter Tryz.func30, Tryz.ntmps30
  go_wp2_with fail
  go_loopw [5, 12] (fun x i wr => ∃ j : Nat, i = .int .i64 j ∧ j ≤ k.len ∧ x = .bool (false && fitAll F (k.take j)) ∧ Below w.heap.size w wr ∧ Nx wr w.heap.size ⟨9, b, neg, dig, exp, u, wd, s⟩ (.slice A k.len c)) (fun _ i _ => k.len - (intOf i).toNat)
  case atStart => exact ⟨0, rfl, Nat.zero_le _, by simp [Fo.take, fitAll], HB.out, HX.out⟩
  case round =>
    obtain ⟨j, rfl, hj, rfl, hb, hbx⟩ := hrel
    have HB3 := Lib.hid hb
    have HX3 := Lib.hid hbx
    have c8 := hbx.c8
    clear hb hbx HB HX
    by_cases hgo : j < k.len
    · obtain ⟨B, o, rfl, hB, _, hLi⟩ := HL.out (by omega)
      obtain ⟨h', k', r, hd⟩ := drop_cons hgo
      have hLj := lies_drop j hLi
      rw [hd] at hLj
      obtain ⟨⟨v', hc', hk'⟩, hu', _⟩ := lies_cons.1 hLj
      obtain ⟨Q, hQ⟩ : ∃ Q, Q = fitAll F (.cons h' k' .nil) := ⟨_, rfl⟩
      have HC : Hid (∀ W, Below w.heap.size w W → Calls Tryz.prog 30 #[.agg (h'.cells v'), .int .i64 n] W (BolP Q W)) := Lib.hid (fun W hW => by rw [hQ]; exact HI.out j h' k' r v' W hd hW hk' hu')
      obtain ⟨P, hP⟩ : ∃ P, P = (false && fitAll F (k.take j)) := ⟨_, rfl⟩
      have HE : Hid ((false && fitAll F (k.take (j + 1))) = (P && Q)) := Lib.hid (by rw [take_app j k hd, fitAll_app, ← Bool.and_assoc, ← hP, hQ])
      rw [← hP]
      obtain ⟨d0, d1, d2, d3, d4, d5, d6, d7, d8⟩ := (hc'.below HB3.out).nine
      clear hLi hLj hc' hk' hd hu' hQ hP
      cases P with
      | true =>
        go_wp2_with fail
        refine (HC.out _ HB3.out).mono ?_
        rintro e w4 ⟨rfl, hb4⟩
        have HB4 := Lib.hid (below_nx HB3.out hb4)
        have HX4 := Lib.hid (HX3.out.below hb4)
        clear hb4 d0 d1 d2 d3 d4 d5 d6 d7 d8 c8
        go_wp2_with fail
        go_roundw
        case rel => exact ⟨j + 1, by go_num, hgo, by rw [HE.out, Bool.true_and], HB4.out, HX4.out⟩
        case measure => simp [intOf]; omega
      | false =>
        clear d0 d1 d2 d3 d4 d5 d6 d7 d8
        go_wp2_with fail
        go_roundw
        case rel => exact ⟨j + 1, by go_num, hgo, by rw [HE.out, Bool.false_and], HB3.out, HX3.out⟩
        case measure => simp [intOf]; omega
    · have HE : Hid (k.take j = k) := Lib.hid (by rw [show j = k.len by omega, take_all])
      go_wp2_with fail
      go_ret
      exact ⟨by rw [HFin.out]; show Ending.returned (Value.bool (false && fitAll F (k.take j))) = _; rw [HE.out], HB3.out⟩
end Go.Proofs.YtcofhgdfoamhpaaGreatDoor
