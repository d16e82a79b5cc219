/- The document's own: fits, of maps. -/
import Derived.Test.YtcofhgdfoamhpaaGreatDoorZK
import Derived.Test.YtcofhgdfoamhpaaGreatDoorZG
namespace Go.Proofs.YtcofhgdfoamhpaaGreatDoor
open Go.RowKit

set_option maxRecDepth 100000 in
set_option maxHeartbeats 3000000 in
theorem rFits_8_in (h : Hd) (k : Fo) (v : Value) (n : Int) (w : World) (hk : Kd An w v k) (hK : h.kind = 8) (h1 : (1 : Int) ≤ n) (h4 : n ≤ 4) (hfl : k.len < 1353245080301) (hGk : AllG Gk k)
    (hI : ∀ (j : Nat) (h' : Hd) (k' r : Fo) (v' : Value) (W : World), k.drop j = .cons h' k' r → Below w.heap.size w W → Kd An w v' k' → h'.u < 18446744073709551616 → Calls Tryz.prog 30 #[.agg (h'.cells v'), .int .i64 n] W (BolP (fitAll (frmOf n) (.cons h' k' .nil)) W)) :
    Calls Tryz.prog 30 #[.agg (h.cells v), .int .i64 n] w (BolP (fitAll (frmOf n) (.cons h k .nil)) w) := by
  obtain ⟨A, c, rfl, hc, hl, hL⟩ := hk.form
  obtain ⟨F, hF⟩ : ∃ F, F = frmOf n := ⟨_, rfl⟩
  obtain ⟨G, hG⟩ : ∃ G, G = keysF k := ⟨_, rfl⟩
  have HFin0 : Hid (fitAll F (.cons h k .nil) = ((true && kS n G) && fitAll F k)) := Lib.hid (by
    have e : fitN F h k = keyAll F.keys (keysF k) := by
      have hn : n = 1 ∨ n = 2 ∨ n = 3 ∨ n = 4 := by omega
      have eb : hasB F.kinds 8 = true := by rw [hF]; rcases hn with rfl | rfl | rfl | rfl <;> decide
      rw [fitN, hK, eb]
      simp [fitMp]
    have e2 := keys_and (n := n) h1 h4 hGk
    rw [← hF, ← hG] at e2
    rw [fitAll, e, fitAll, Bool.and_true, Bool.true_and, e2, hG])
  have HGl : Hid (G.len = (k.len + 1) / 2) := Lib.hid (by rw [hG, keysF_half])
  have HGa : Hid (∀ (m : Nat) (h' : Hd) (k' r : Fo), k.drop (2 * m) = .cons h' k' r → ∃ r', G.drop m = .cons h' k' r') := Lib.hid (fun m h' k' r e => by rw [hG]; exact keysF_at m k e)
  have HLI := Lib.hid hfl
  clear hG hfl hGk
  rw [← hF] at hI
  have HI := Lib.hid hI
  have HL := Lib.hid hL
  clear hk hL hI hc
  rw [← hF]
  clear hF
  rcases h with ⟨kd, b, neg, dig, exp, u, wd, s⟩
  obtain rfl : kd = 8 := hK
  have HX := Lib.hid (Nx.new w ⟨8, b, neg, dig, exp, u, wd, s⟩ (.slice A k.len c))
  have HB := Lib.hid (below_a (Below.refl _ w) (.cells ((⟨8, b, neg, dig, exp, u, wd, s⟩ : Hd).cells (.slice A k.len c)) 27))
  simp only [Hd.cells]
  go_enter Tryz.func30, Tryz.ntmps30
  go_wp2_with fail
  go_loopw [5, 11] (fun x i wr => ∃ m : Nat, i = .int .i64 ((2 * m : Nat) : Int) ∧ m ≤ G.len ∧ x = .bool (true && kS n (G.take m)) ∧ Below w.heap.size w wr ∧ Nx wr w.heap.size ⟨8, b, neg, dig, exp, u, wd, s⟩ (.slice A k.len c)) (fun _ i _ => k.len + 1 - (intOf i).toNat)
  case atStart => exact ⟨0, rfl, Nat.zero_le _, by simp [Fo.take, kS], HB.out, HX.out⟩
  case round =>
    obtain ⟨m, rfl, hm, rfl, hb, hbx⟩ := hrel
    replace HB := Lib.hid hb
    replace HX := Lib.hid hbx
    have c8 := hbx.c8
    clear hb hbx
    by_cases hgo : m < G.len
    · have hgi : ((2 * m : Nat) : Int) < (k.len : Int) := by have := HGl.out; omega
      obtain ⟨B, o, rfl, hB, _, hLi⟩ := HL.out (by omega)
      obtain ⟨h', k', r, hdr⟩ := drop_cons (f := k) (i := 2 * m) (by omega)
      have hLj := lies_drop (2 * m) hLi
      rw [hdr] at hLj
      obtain ⟨⟨v', hc', hk'⟩, hu', _⟩ := lies_cons.1 hLj
      obtain ⟨A', c', rfl, _, _, _⟩ := hk'.form
      obtain ⟨rG, hdG⟩ := HGa.out m h' k' r hdr
      obtain ⟨Q, hQ⟩ : ∃ Q, Q = keyS n h' := ⟨_, rfl⟩
      have HC : Hid (∀ W, Calls Tryz.prog 44 #[.agg (h'.cells (.slice A' k'.len c')), .int .i64 n] W (BolP Q W)) := Lib.hid (fun W => by rw [hQ]; exact rKey_calls h' A' k'.len c' n W)
      obtain ⟨P, hP⟩ : ∃ P, P = (true && kS n (G.take m)) := ⟨_, rfl⟩
      have HE : Hid ((true && kS n (G.take (m + 1))) = (P && Q)) := Lib.hid (by rw [take_app m G hdG, kS_app, ← Bool.and_assoc, ← hP, hQ]; simp [kS])
      rw [← hP]
      obtain ⟨d0, d1, d2, d3, d4, d5, d6, d7, d8⟩ := (hc'.below HB.out).nine
      have hmb : (m : Int) < 1353245080301 := by have := HLI.out; omega
      obtain ⟨M, hM⟩ : ∃ M : Nat, M = 2 * m := ⟨_, rfl⟩
      rw [← hM] at hgi d0 d1 d2 d3 d4 d5 d6 d7 d8 ⊢
      have HM := Lib.hid hM
      have hMb : (M : Int) < 2706490160602 := by omega
      clear hLi hLj hc' hk' hdr hdG hu' hQ hP hM hmb
      simp only [Hd.cells] at HC
      cases P with
      | true =>
        go_wp2_with fail
        refine (HC.out _).mono ?_
        rintro e w4 ⟨rfl, hb4⟩
        have HB4 := Lib.hid (below_nx HB.out hb4)
        have HX4 := Lib.hid (HX.out.below hb4)
        clear hb4 d0 d1 d2 d3 d4 d5 d6 d7 d8 c8
        go_wp2_with fail
        go_roundw
        case rel => exact ⟨m + 1, by have := HM.out; congr 1 <;> omega, hgo, by rw [HE.out, Bool.true_and], HB4.out, HX4.out⟩
        case measure => have := HM.out; simp [intOf]; omega
      | false =>
        clear d0 d1 d2 d3 d4 d5 d6 d7 d8
        go_wp2_with fail
        go_roundw
        case rel => exact ⟨m + 1, by have := HM.out; congr 1 <;> omega, hgo, by rw [HE.out, Bool.false_and], HB.out, HX.out⟩
        case measure => have := HM.out; simp [intOf]; omega
    · have hgi : ¬ ((2 * m : Nat) : Int) < (k.len : Int) := by have := HGl.out; omega
      have HEnd : Hid (G.take m = G) := Lib.hid (by rw [show m = G.len by omega, take_all])
      rw [HEnd.out]
      obtain ⟨P0, hP0⟩ : ∃ P0, P0 = (true && kS n G) := ⟨_, rfl⟩
      have HFin : Hid (fitAll F (.cons ⟨8, b, neg, dig, exp, u, wd, s⟩ k .nil) = (P0 && fitAll F k)) := Lib.hid (by rw [hP0]; exact HFin0.out)
      rw [← hP0]
      clear hP0
      go_wp2_with fail
      go_loopw [5, 12] (fun x i wr => ∃ j : Nat, i = .int .i64 j ∧ j ≤ k.len ∧ x = .bool (P0 && fitAll F (k.take j)) ∧ Below w.heap.size w wr ∧ Nx wr w.heap.size ⟨8, b, neg, dig, exp, u, wd, s⟩ (.slice A k.len c)) (fun _ i _ => k.len - (intOf i).toNat)
      case atStart => exact ⟨0, rfl, Nat.zero_le _, by simp [Fo.take, fitAll], HB.out, HX.out⟩
      case round =>
        obtain ⟨j, rfl, hj, rfl, hb, hbx⟩ := hrel
        have HB3 := Lib.hid hb
        have HX3 := Lib.hid hbx
        have c8 := hbx.c8
        clear hb hbx HB HX
        by_cases hgo : j < k.len
        · obtain ⟨B, o, rfl, hB, _, hLi⟩ := HL.out (by omega)
          obtain ⟨h', k', r, hd⟩ := drop_cons hgo
          have hLj := lies_drop j hLi
          rw [hd] at hLj
          obtain ⟨⟨v', hc', hk'⟩, hu', _⟩ := lies_cons.1 hLj
          obtain ⟨Q, hQ⟩ : ∃ Q, Q = fitAll F (.cons h' k' .nil) := ⟨_, rfl⟩
          have HC : Hid (∀ W, Below w.heap.size w W → Calls Tryz.prog 30 #[.agg (h'.cells v'), .int .i64 n] W (BolP Q W)) := Lib.hid (fun W hW => by rw [hQ]; exact HI.out j h' k' r v' W hd hW hk' hu')
          obtain ⟨P, hP⟩ : ∃ P, P = (P0 && fitAll F (k.take j)) := ⟨_, rfl⟩
          have HE : Hid ((P0 && fitAll F (k.take (j + 1))) = (P && Q)) := Lib.hid (by rw [take_app j k hd, fitAll_app, ← Bool.and_assoc, ← hP, hQ])
          rw [← hP]
          obtain ⟨d0, d1, d2, d3, d4, d5, d6, d7, d8⟩ := (hc'.below HB3.out).nine
          clear hLi hLj hc' hk' hd hu' hQ hP
          cases P with
          | true =>
            go_wp2_with fail
            refine (HC.out _ HB3.out).mono ?_
            rintro e w4 ⟨rfl, hb4⟩
            have HB4 := Lib.hid (below_nx HB3.out hb4)
            have HX4 := Lib.hid (HX3.out.below hb4)
            clear hb4 d0 d1 d2 d3 d4 d5 d6 d7 d8 c8
            go_wp2_with fail
            go_roundw
            case rel => exact ⟨j + 1, by go_num, hgo, by rw [HE.out, Bool.true_and], HB4.out, HX4.out⟩
            case measure => simp [intOf]; omega
          | false =>
            clear d0 d1 d2 d3 d4 d5 d6 d7 d8
            go_wp2_with fail
            go_roundw
            case rel => exact ⟨j + 1, by go_num, hgo, by rw [HE.out, Bool.false_and], HB3.out, HX3.out⟩
            case measure => simp [intOf]; omega
        · have HE : Hid (k.take j = k) := Lib.hid (by rw [show j = k.len by omega, take_all])
          go_wp2_with fail
          go_ret
          exact ⟨by rw [HFin.out]; show Ending.returned (Value.bool (P0 && fitAll F (k.take j))) = _; rw [HE.out], HB3.out⟩
set_option maxRecDepth 100000 in
set_option maxHeartbeats 3000000 in
theorem rFits_8_lo (h : Hd) (k : Fo) (v : Value) (n : Int) (w : World) (hk : Kd An w v k) (hK : h.kind = 8) (g1 : ¬ (1 : Int) ≤ n) (hfl : k.len < 1353245080301)
    (hI : ∀ (j : Nat) (h' : Hd) (k' r : Fo) (v' : Value) (W : World), k.drop j = .cons h' k' r → Below w.heap.size w W → Kd An w v' k' → h'.u < 18446744073709551616 → Calls Tryz.prog 30 #[.agg (h'.cells v'), .int .i64 n] W (BolP (fitAll (frmOf n) (.cons h' k' .nil)) W)) :
    Calls Tryz.prog 30 #[.agg (h.cells v), .int .i64 n] w (BolP (fitAll (frmOf n) (.cons h k .nil)) w) := by
  obtain ⟨A, c, rfl, hc, hl, hL⟩ := hk.form
  obtain ⟨F, hF⟩ : ∃ F, F = frmOf n := ⟨_, rfl⟩
  obtain ⟨G, hG⟩ : ∃ G, G = keysF k := ⟨_, rfl⟩
  have HFin0 : Hid (fitAll F (.cons h k .nil) = ((false && kS n G) && fitAll F k)) := Lib.hid (by
    have e : fitN F h k = false := by
      rw [hF, frm_no (by omega), fitN, hasB_0, Bool.false_and]
    simp [fitAll, e])
  have HGl : Hid (G.len = (k.len + 1) / 2) := Lib.hid (by rw [hG, keysF_half])
  have HGa : Hid (∀ (m : Nat) (h' : Hd) (k' r : Fo), k.drop (2 * m) = .cons h' k' r → ∃ r', G.drop m = .cons h' k' r') := Lib.hid (fun m h' k' r e => by rw [hG]; exact keysF_at m k e)
  have HLI := Lib.hid hfl
  clear hG hfl
  rw [← hF] at hI
  have HI := Lib.hid hI
  have HL := Lib.hid hL
  clear hk hL hI hc
  rw [← hF]
  clear hF
  rcases h with ⟨kd, b, neg, dig, exp, u, wd, s⟩
  obtain rfl : kd = 8 := hK
  have HX := Lib.hid (Nx.new w ⟨8, b, neg, dig, exp, u, wd, s⟩ (.slice A k.len c))
  have HB := Lib.hid (below_a (Below.refl _ w) (.cells ((⟨8, b, neg, dig, exp, u, wd, s⟩ : Hd).cells (.slice A k.len c)) 27))
  simp only [Hd.cells]
  go_enter Tryz.func30, Tryz.ntmps30
  go_wp2_with fail
  go_loopw [5, 11] (fun x i wr => ∃ m : Nat, i = .int .i64 ((2 * m : Nat) : Int) ∧ m ≤ G.len ∧ x = .bool (false && kS n (G.take m)) ∧ Below w.heap.size w wr ∧ Nx wr w.heap.size ⟨8, b, neg, dig, exp, u, wd, s⟩ (.slice A k.len c)) (fun _ i _ => k.len + 1 - (intOf i).toNat)
  case atStart => exact ⟨0, rfl, Nat.zero_le _, by simp [Fo.take, kS], HB.out, HX.out⟩
  case round =>
    obtain ⟨m, rfl, hm, rfl, hb, hbx⟩ := hrel
    replace HB := Lib.hid hb
    replace HX := Lib.hid hbx
    have c8 := hbx.c8
    clear hb hbx
    by_cases hgo : m < G.len
    · have hgi : ((2 * m : Nat) : Int) < (k.len : Int) := by have := HGl.out; omega
      obtain ⟨B, o, rfl, hB, _, hLi⟩ := HL.out (by omega)
      obtain ⟨h', k', r, hdr⟩ := drop_cons (f := k) (i := 2 * m) (by omega)
      have hLj := lies_drop (2 * m) hLi
      rw [hdr] at hLj
      obtain ⟨⟨v', hc', hk'⟩, hu', _⟩ := lies_cons.1 hLj
      obtain ⟨A', c', rfl, _, _, _⟩ := hk'.form
      obtain ⟨rG, hdG⟩ := HGa.out m h' k' r hdr
      obtain ⟨Q, hQ⟩ : ∃ Q, Q = keyS n h' := ⟨_, rfl⟩
      have HC : Hid (∀ W, Calls Tryz.prog 44 #[.agg (h'.cells (.slice A' k'.len c')), .int .i64 n] W (BolP Q W)) := Lib.hid (fun W => by rw [hQ]; exact rKey_calls h' A' k'.len c' n W)
      obtain ⟨P, hP⟩ : ∃ P, P = (false && kS n (G.take m)) := ⟨_, rfl⟩
      have HE : Hid ((false && kS n (G.take (m + 1))) = (P && Q)) := Lib.hid (by rw [take_app m G hdG, kS_app, ← Bool.and_assoc, ← hP, hQ]; simp [kS])
      rw [← hP]
      obtain ⟨d0, d1, d2, d3, d4, d5, d6, d7, d8⟩ := (hc'.below HB.out).nine
      have hmb : (m : Int) < 1353245080301 := by have := HLI.out; omega
      obtain ⟨M, hM⟩ : ∃ M : Nat, M = 2 * m := ⟨_, rfl⟩
      rw [← hM] at hgi d0 d1 d2 d3 d4 d5 d6 d7 d8 ⊢
      have HM := Lib.hid hM
      have hMb : (M : Int) < 2706490160602 := by omega
      clear hLi hLj hc' hk' hdr hdG hu' hQ hP hM hmb
      simp only [Hd.cells] at HC
      cases P with
      | true =>
        go_wp2_with fail
        refine (HC.out _).mono ?_
        rintro e w4 ⟨rfl, hb4⟩
        have HB4 := Lib.hid (below_nx HB.out hb4)
        have HX4 := Lib.hid (HX.out.below hb4)
        clear hb4 d0 d1 d2 d3 d4 d5 d6 d7 d8 c8
        go_wp2_with fail
        go_roundw
        case rel => exact ⟨m + 1, by have := HM.out; congr 1 <;> omega, hgo, by rw [HE.out, Bool.true_and], HB4.out, HX4.out⟩
        case measure => have := HM.out; simp [intOf]; omega
      | false =>
        clear d0 d1 d2 d3 d4 d5 d6 d7 d8
        go_wp2_with fail
        go_roundw
        case rel => exact ⟨m + 1, by have := HM.out; congr 1 <;> omega, hgo, by rw [HE.out, Bool.false_and], HB.out, HX.out⟩
        case measure => have := HM.out; simp [intOf]; omega
    · have hgi : ¬ ((2 * m : Nat) : Int) < (k.len : Int) := by have := HGl.out; omega
      have HEnd : Hid (G.take m = G) := Lib.hid (by rw [show m = G.len by omega, take_all])
      rw [HEnd.out]
      obtain ⟨P0, hP0⟩ : ∃ P0, P0 = (false && kS n G) := ⟨_, rfl⟩
      have HFin : Hid (fitAll F (.cons ⟨8, b, neg, dig, exp, u, wd, s⟩ k .nil) = (P0 && fitAll F k)) := Lib.hid (by rw [hP0]; exact HFin0.out)
      rw [← hP0]
      clear hP0
      go_wp2_with fail
      go_loopw [5, 12] (fun x i wr => ∃ j : Nat, i = .int .i64 j ∧ j ≤ k.len ∧ x = .bool (P0 && fitAll F (k.take j)) ∧ Below w.heap.size w wr ∧ Nx wr w.heap.size ⟨8, b, neg, dig, exp, u, wd, s⟩ (.slice A k.len c)) (fun _ i _ => k.len - (intOf i).toNat)
      case atStart => exact ⟨0, rfl, Nat.zero_le _, by simp [Fo.take, fitAll], HB.out, HX.out⟩
      case round =>
        obtain ⟨j, rfl, hj, rfl, hb, hbx⟩ := hrel
        have HB3 := Lib.hid hb
        have HX3 := Lib.hid hbx
        have c8 := hbx.c8
        clear hb hbx HB HX
        by_cases hgo : j < k.len
        · obtain ⟨B, o, rfl, hB, _, hLi⟩ := HL.out (by omega)
          obtain ⟨h', k', r, hd⟩ := drop_cons hgo
          have hLj := lies_drop j hLi
          rw [hd] at hLj
          obtain ⟨⟨v', hc', hk'⟩, hu', _⟩ := lies_cons.1 hLj
          obtain ⟨Q, hQ⟩ : ∃ Q, Q = fitAll F (.cons h' k' .nil) := ⟨_, rfl⟩
          have HC : Hid (∀ W, Below w.heap.size w W → Calls Tryz.prog 30 #[.agg (h'.cells v'), .int .i64 n] W (BolP Q W)) := Lib.hid (fun W hW => by rw [hQ]; exact HI.out j h' k' r v' W hd hW hk' hu')
          obtain ⟨P, hP⟩ : ∃ P, P = (P0 && fitAll F (k.take j)) := ⟨_, rfl⟩
          have HE : Hid ((P0 && fitAll F (k.take (j + 1))) = (P && Q)) := Lib.hid (by rw [take_app j k hd, fitAll_app, ← Bool.and_assoc, ← hP, hQ])
          rw [← hP]
          obtain ⟨d0, d1, d2, d3, d4, d5, d6, d7, d8⟩ := (hc'.below HB3.out).nine
          clear hLi hLj hc' hk' hd hu' hQ hP
          cases P with
          | true =>
            go_wp2_with fail
            refine (HC.out _ HB3.out).mono ?_
            rintro e w4 ⟨rfl, hb4⟩
            have HB4 := Lib.hid (below_nx HB3.out hb4)
            have HX4 := Lib.hid (HX3.out.below hb4)
            clear hb4 d0 d1 d2 d3 d4 d5 d6 d7 d8 c8
            go_wp2_with fail
            go_roundw
            case rel => exact ⟨j + 1, by go_num, hgo, by rw [HE.out, Bool.true_and], HB4.out, HX4.out⟩
            case measure => simp [intOf]; omega
          | false =>
            clear d0 d1 d2 d3 d4 d5 d6 d7 d8
            go_wp2_with fail
            go_roundw
            case rel => exact ⟨j + 1, by go_num, hgo, by rw [HE.out, Bool.false_and], HB3.out, HX3.out⟩
            case measure => simp [intOf]; omega
        · have HE : Hid (k.take j = k) := Lib.hid (by rw [show j = k.len by omega, take_all])
          go_wp2_with fail
          go_ret
          exact ⟨by rw [HFin.out]; show Ending.returned (Value.bool (P0 && fitAll F (k.take j))) = _; rw [HE.out], HB3.out⟩
set_option maxRecDepth 100000 in
set_option maxHeartbeats 3000000 in
theorem rFits_8_hi (h : Hd) (k : Fo) (v : Value) (n : Int) (w : World) (hk : Kd An w v k) (hK : h.kind = 8) (g1 : (1 : Int) ≤ n) (g2 : ¬ n ≤ 4) (hfl : k.len < 1353245080301)
    (hI : ∀ (j : Nat) (h' : Hd) (k' r : Fo) (v' : Value) (W : World), k.drop j = .cons h' k' r → Below w.heap.size w W → Kd An w v' k' → h'.u < 18446744073709551616 → Calls Tryz.prog 30 #[.agg (h'.cells v'), .int .i64 n] W (BolP (fitAll (frmOf n) (.cons h' k' .nil)) W)) :
    Calls Tryz.prog 30 #[.agg (h.cells v), .int .i64 n] w (BolP (fitAll (frmOf n) (.cons h k .nil)) w) := by
  obtain ⟨A, c, rfl, hc, hl, hL⟩ := hk.form
  obtain ⟨F, hF⟩ : ∃ F, F = frmOf n := ⟨_, rfl⟩
  obtain ⟨G, hG⟩ : ∃ G, G = keysF k := ⟨_, rfl⟩
  have HFin0 : Hid (fitAll F (.cons h k .nil) = ((false && kS n G) && fitAll F k)) := Lib.hid (by
    have e : fitN F h k = false := by
      rw [hF, frm_no (by omega), fitN, hasB_0, Bool.false_and]
    simp [fitAll, e])
  have HGl : Hid (G.len = (k.len + 1) / 2) := Lib.hid (by rw [hG, keysF_half])
  have HGa : Hid (∀ (m : Nat) (h' : Hd) (k' r : Fo), k.drop (2 * m) = .cons h' k' r → ∃ r', G.drop m = .cons h' k' r') := Lib.hid (fun m h' k' r e => by rw [hG]; exact keysF_at m k e)
  have HLI := Lib.hid hfl
  clear hG hfl
  rw [← hF] at hI
  have HI := Lib.hid hI
  have HL := Lib.hid hL
  clear hk hL hI hc
  rw [← hF]
  clear hF
  rcases h with ⟨kd, b, neg, dig, exp, u, wd, s⟩
  obtain rfl : kd = 8 := hK
  have HX := Lib.hid (Nx.new w ⟨8, b, neg, dig, exp, u, wd, s⟩ (.slice A k.len c))
  have HB := Lib.hid (below_a (Below.refl _ w) (.cells ((⟨8, b, neg, dig, exp, u, wd, s⟩ : Hd).cells (.slice A k.len c)) 27))
  simp only [Hd.cells]
  go_enter Tryz.func30, Tryz.ntmps30
  go_wp2_with fail
  go_loopw [5, 11] (fun x i wr => ∃ m : Nat, i = .int .i64 ((2 * m : Nat) : Int) ∧ m ≤ G.len ∧ x = .bool (false && kS n (G.take m)) ∧ Below w.heap.size w wr ∧ Nx wr w.heap.size ⟨8, b, neg, dig, exp, u, wd, s⟩ (.slice A k.len c)) (fun _ i _ => k.len + 1 - (intOf i).toNat)
  case atStart => exact ⟨0, rfl, Nat.zero_le _, by simp [Fo.take, kS], HB.out, HX.out⟩
  case round =>
    obtain ⟨m, rfl, hm, rfl, hb, hbx⟩ := hrel
    replace HB := Lib.hid hb
    replace HX := Lib.hid hbx
    have c8 := hbx.c8
    clear hb hbx
    by_cases hgo : m < G.len
    · have hgi : ((2 * m : Nat) : Int) < (k.len : Int) := by have := HGl.out; omega
      obtain ⟨B, o, rfl, hB, _, hLi⟩ := HL.out (by omega)
      obtain ⟨h', k', r, hdr⟩ := drop_cons (f := k) (i := 2 * m) (by omega)
      have hLj := lies_drop (2 * m) hLi
      rw [hdr] at hLj
      obtain ⟨⟨v', hc', hk'⟩, hu', _⟩ := lies_cons.1 hLj
      obtain ⟨A', c', rfl, _, _, _⟩ := hk'.form
      obtain ⟨rG, hdG⟩ := HGa.out m h' k' r hdr
      obtain ⟨Q, hQ⟩ : ∃ Q, Q = keyS n h' := ⟨_, rfl⟩
      have HC : Hid (∀ W, Calls Tryz.prog 44 #[.agg (h'.cells (.slice A' k'.len c')), .int .i64 n] W (BolP Q W)) := Lib.hid (fun W => by rw [hQ]; exact rKey_calls h' A' k'.len c' n W)
      obtain ⟨P, hP⟩ : ∃ P, P = (false && kS n (G.take m)) := ⟨_, rfl⟩
      have HE : Hid ((false && kS n (G.take (m + 1))) = (P && Q)) := Lib.hid (by rw [take_app m G hdG, kS_app, ← Bool.and_assoc, ← hP, hQ]; simp [kS])
      rw [← hP]
      obtain ⟨d0, d1, d2, d3, d4, d5, d6, d7, d8⟩ := (hc'.below HB.out).nine
      have hmb : (m : Int) < 1353245080301 := by have := HLI.out; omega
      obtain ⟨M, hM⟩ : ∃ M : Nat, M = 2 * m := ⟨_, rfl⟩
      rw [← hM] at hgi d0 d1 d2 d3 d4 d5 d6 d7 d8 ⊢
      have HM := Lib.hid hM
      have hMb : (M : Int) < 2706490160602 := by omega
      clear hLi hLj hc' hk' hdr hdG hu' hQ hP hM hmb
      simp only [Hd.cells] at HC
      cases P with
      | true =>
        go_wp2_with fail
        refine (HC.out _).mono ?_
        rintro e w4 ⟨rfl, hb4⟩
        have HB4 := Lib.hid (below_nx HB.out hb4)
        have HX4 := Lib.hid (HX.out.below hb4)
        clear hb4 d0 d1 d2 d3 d4 d5 d6 d7 d8 c8
        go_wp2_with fail
        go_roundw
        case rel => exact ⟨m + 1, by have := HM.out; congr 1 <;> omega, hgo, by rw [HE.out, Bool.true_and], HB4.out, HX4.out⟩
        case measure => have := HM.out; simp [intOf]; omega
      | false =>
        clear d0 d1 d2 d3 d4 d5 d6 d7 d8
        go_wp2_with fail
        go_roundw
        case rel => exact ⟨m + 1, by have := HM.out; congr 1 <;> omega, hgo, by rw [HE.out, Bool.false_and], HB.out, HX.out⟩
        case measure => have := HM.out; simp [intOf]; omega
    · have hgi : ¬ ((2 * m : Nat) : Int) < (k.len : Int) := by have := HGl.out; omega
      have HEnd : Hid (G.take m = G) := Lib.hid (by rw [show m = G.len by omega, take_all])
      rw [HEnd.out]
      obtain ⟨P0, hP0⟩ : ∃ P0, P0 = (false && kS n G) := ⟨_, rfl⟩
      have HFin : Hid (fitAll F (.cons ⟨8, b, neg, dig, exp, u, wd, s⟩ k .nil) = (P0 && fitAll F k)) := Lib.hid (by rw [hP0]; exact HFin0.out)
      rw [← hP0]
      clear hP0
      go_wp2_with fail
      go_loopw [5, 12] (fun x i wr => ∃ j : Nat, i = .int .i64 j ∧ j ≤ k.len ∧ x = .bool (P0 && fitAll F (k.take j)) ∧ Below w.heap.size w wr ∧ Nx wr w.heap.size ⟨8, b, neg, dig, exp, u, wd, s⟩ (.slice A k.len c)) (fun _ i _ => k.len - (intOf i).toNat)
      case atStart => exact ⟨0, rfl, Nat.zero_le _, by simp [Fo.take, fitAll], HB.out, HX.out⟩
      case round =>
        obtain ⟨j, rfl, hj, rfl, hb, hbx⟩ := hrel
        have HB3 := Lib.hid hb
        have HX3 := Lib.hid hbx
        have c8 := hbx.c8
        clear hb hbx HB HX
        by_cases hgo : j < k.len
        · obtain ⟨B, o, rfl, hB, _, hLi⟩ := HL.out (by omega)
          obtain ⟨h', k', r, hd⟩ := drop_cons hgo
          have hLj := lies_drop j hLi
          rw [hd] at hLj
          obtain ⟨⟨v', hc', hk'⟩, hu', _⟩ := lies_cons.1 hLj
          obtain ⟨Q, hQ⟩ : ∃ Q, Q = fitAll F (.cons h' k' .nil) := ⟨_, rfl⟩
          have HC : Hid (∀ W, Below w.heap.size w W → Calls Tryz.prog 30 #[.agg (h'.cells v'), .int .i64 n] W (BolP Q W)) := Lib.hid (fun W hW => by rw [hQ]; exact HI.out j h' k' r v' W hd hW hk' hu')
          obtain ⟨P, hP⟩ : ∃ P, P = (P0 && fitAll F (k.take j)) := ⟨_, rfl⟩
          have HE : Hid ((P0 && fitAll F (k.take (j + 1))) = (P && Q)) := Lib.hid (by rw [take_app j k hd, fitAll_app, ← Bool.and_assoc, ← hP, hQ])
          rw [← hP]
          obtain ⟨d0, d1, d2, d3, d4, d5, d6, d7, d8⟩ := (hc'.below HB3.out).nine
          clear hLi hLj hc' hk' hd hu' hQ hP
          cases P with
          | true =>
            go_wp2_with fail
            refine (HC.out _ HB3.out).mono ?_
            rintro e w4 ⟨rfl, hb4⟩
            have HB4 := Lib.hid (below_nx HB3.out hb4)
            have HX4 := Lib.hid (HX3.out.below hb4)
            clear hb4 d0 d1 d2 d3 d4 d5 d6 d7 d8 c8
            go_wp2_with fail
            go_roundw
            case rel => exact ⟨j + 1, by go_num, hgo, by rw [HE.out, Bool.true_and], HB4.out, HX4.out⟩
            case measure => simp [intOf]; omega
          | false =>
            clear d0 d1 d2 d3 d4 d5 d6 d7 d8
            go_wp2_with fail
            go_roundw
            case rel => exact ⟨j + 1, by go_num, hgo, by rw [HE.out, Bool.false_and], HB3.out, HX3.out⟩
            case measure => simp [intOf]; omega
        · have HE : Hid (k.take j = k) := Lib.hid (by rw [show j = k.len by omega, take_all])
          go_wp2_with fail
          go_ret
          exact ⟨by rw [HFin.out]; show Ending.returned (Value.bool (P0 && fitAll F (k.take j))) = _; rw [HE.out], HB3.out⟩
end Go.Proofs.YtcofhgdfoamhpaaGreatDoor
