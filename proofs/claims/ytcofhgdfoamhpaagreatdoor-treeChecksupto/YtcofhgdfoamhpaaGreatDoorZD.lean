/- The document's own: own, of maps. -/
import Derived.Test.YtcofhgdfoamhpaaGreatDoorZC
import Derived.Test.YtcofhgdfoamhpaaGreatDoorMp
import Derived.Deep.RegionHeld3
namespace Go.Proofs.YtcofhgdfoamhpaaGreatDoor
open Go.RowKit

theorem keysF_at : ∀ (m : Nat) (f : Fo) {h : Hd} {k r : Fo}, f.drop (2 * m) = .cons h k r → ∃ r', (keysF f).drop m = .cons h k r'
  | 0, .cons _ _ .nil, _, _, _, e => by cases e; exact ⟨_, rfl⟩
  | 0, .cons _ _ (.cons _ _ _), _, _, _, e => by cases e; exact ⟨_, rfl⟩
  | 0, .nil, _, _, _, e => by cases e
  | m + 1, .cons _ _ (.cons _ _ r), _, _, _, e => keysF_at m r (show r.drop (2 * m) = _ by rw [show 2 * (m + 1) = 2 * m + 1 + 1 by omega] at e; exact e)
  | m + 1, .cons _ _ .nil, _, _, _, e => by
    rw [show 2 * (m + 1) = 2 * m + 1 + 1 by omega] at e
    simp only [Fo.drop] at e
    cases e
  | m + 1, .nil, _, _, _, e => by
    rw [show 2 * (m + 1) = 2 * m + 1 + 1 by omega] at e
    cases e
theorem keysF_half : ∀ (f : Fo), (keysF f).len = (f.len + 1) / 2
  | .nil => rfl
  | .cons _ _ .nil => by simp [keysF, Fo.len]
  | .cons _ _ (.cons _ _ r) => by
    simp only [keysF, Fo.len]
    rw [keysF_half r]
    omega
set_option maxRecDepth 100000 in
set_option maxHeartbeats 4000000 in
theorem rOwn_8 (b neg : Bool) (dig : ByteArray) (exp : Int) (u : Nat) (wd : Int) (s : ByteArray) (k : Fo) (v : Value) (w : World) (hk : Kd An w v k) (hfl : k.len < 1353245080301) : Calls Tryz.prog 36 #[.agg ((⟨8, b, neg, dig, exp, u, wd, s⟩ : Hd).cells v)] w (BolP (o_isMap ⟨8, b, neg, dig, exp, u, wd, s⟩ k) w) := by
  obtain ⟨A, c, rfl, hc, hl, hL⟩ := hk.form
  have HK := Lib.hid hk
  have HL := Lib.hid hL
  have HLI : Hid (k.len < 1353245080301) := Lib.hid hfl
  clear hk hL hfl
  obtain ⟨R, hR⟩ : ∃ R, R = sameH ⟨8, b, neg, dig, exp, u, wd, s⟩ ⟨8, false, false, ⟨#[]⟩, 0, 0, 0, ⟨#[]⟩⟩ := ⟨_, rfl⟩
  have HO : Hid (∀ W, Below w.heap.size w W → Calls Tryz.prog 61 #[.agg #[.int .i64 8, .bool b, .bool neg, .string dig, .int .i64 exp, .int .u64 (u : Int), .int .i64 wd, .string s, .slice A k.len c], .agg #[.int .i64 0, .bool false, .bool false, .string ⟨#[]⟩, .int .i64 0, .int .u64 0, .int .i64 0, .string ⟨#[]⟩, .slice none 0 0]] W (BolP R W)) := Lib.hid (fun W hW => by
    rw [hR]
    exact rOnly_calls ⟨8, b, neg, dig, exp, u, wd, s⟩ ⟨0, false, false, ⟨#[]⟩, 0, 0, 0, ⟨#[]⟩⟩ _ _ none 0 0 W (HK.out.below hW))
  have HX := Lib.hid (Nx.new w ⟨8, b, neg, dig, exp, u, wd, s⟩ (.slice A k.len c))
  have HB := Lib.hid (below_a (Below.refl _ w) (.cells ((⟨8, b, neg, dig, exp, u, wd, s⟩ : Hd).cells (.slice A k.len c)) 27))
  obtain ⟨y0, y1, y2, y3, y4, y5, y6, y7, y8⟩ := HX.out.nine
  have HJ : Hid (o_isArray ⟨8, b, neg, dig, exp, u, wd, s⟩ k.len = R) := Lib.hid (by rw [o_isArray, j_isArray, hR]; simp)
  clear hR
  obtain ⟨h8, hh8⟩ : ∃ h8 : Hd, h8 = ⟨8, b, neg, dig, exp, u, wd, s⟩ := ⟨_, rfl⟩
  have HH8 := Lib.hid hh8
  rw [← hh8] at HX HB HJ
  simp only [Hd.cells]
  rw [← hh8]
  clear hh8
  go_enter Tryz.func36, Tryz.ntmps36
  go_wp2_with fail
  generalize hlf : ((k.len : Int) == 0) = lf
  clear hlf
  refine (HO.out _ (by rw [HH8.out] at HB; exact HB.out)).mono ?_
  rintro o w1 ⟨rfl, hb1⟩
  rw [HH8.out] at HB HX
  replace HB := Lib.hid (below_nx HB.out hb1)
  replace HX := Lib.hid (HX.out.below hb1)
  rw [← HH8.out] at HX
  clear hb1 y0 y1 y2 y3 y4 y5 y6 y7 y8 HO
  have c8 := HX.out.c8
  cases R with
  | false =>
    go_wp2_with fail
    go_ret
    exact ⟨by rw [o_isMap, HJ.out]; rfl, HB.out⟩
  | true =>
    by_cases he : k.len % 2 = 0
    · have he2 : ((k.len : Int)).tmod 2 = 0 := by rw [Int.tmod_eq_emod_of_nonneg (by omega)]; omega
      have HQm : Hid (o_isMap h8 k = distF (keysF k)) := Lib.hid (by rw [o_isMap, HJ.out, decide_eq_true he]; rfl)
      obtain ⟨t, ht⟩ : ∃ t, k.len = 2 * t := ⟨k.len / 2, by omega⟩
      have HTt := Lib.hid ht
      obtain ⟨G, hG⟩ : ∃ G, G = keysF k := ⟨_, rfl⟩
      have HGl : Hid (G.len = t) := Lib.hid (by rw [hG, keysF_half, ht]; omega)
      have HGa : Hid (∀ (m : Nat) (h' : Hd) (k' r : Fo), k.drop (2 * m) = .cons h' k' r → ∃ r', G.drop m = .cons h' k' r') := Lib.hid (fun m h' k' r e => by rw [hG]; exact keysF_at m k e)
      rw [← hG] at HQm
      clear hG ht he
      go_wp2_with fail
      go_loopw [6] (fun i wr => ∃ m : Nat, i = .int .i64 ((2 * m : Nat) : Int) ∧ m ≤ t ∧ distF G = distG (G.take m) (G.drop m) ∧ Below w.heap.size w wr ∧ Nx wr w.heap.size h8 (.slice A k.len c)) (fun i _ => 2 * t - (intOf i).toNat)
      case atStart => exact ⟨0, rfl, Nat.zero_le _, rfl, HB.out, HX.out⟩
      case round =>
        obtain ⟨m, rfl, hm, hd, hb, hx⟩ := hrel
        have HD := Lib.hid hd
        replace HB := Lib.hid hb
        replace HX := Lib.hid hx
        clear hd hb hx c8
        have c8 := HX.out.c8
        by_cases hgo : m < t
        · have hgi : ((2 * m : Nat) : Int) < (k.len : Int) := by have := HTt.out; omega
          go_wp2_with fail
          go_loopw [7] (fun i2 wr2 => ∃ q : Nat, i2 = .int .i64 ((2 * q : Nat) : Int) ∧ q ≤ m ∧ (∀ (h' : Hd) (k' r : Fo), G.drop m = .cons h' k' r → hitF h' k' (G.take m) = hitF h' k' ((G.take m).drop q)) ∧ Below w.heap.size w wr2 ∧ Nx wr2 w.heap.size h8 (.slice A k.len c)) (fun i2 _ => 2 * m - (intOf i2).toNat)
          case atStart => exact ⟨0, rfl, Nat.zero_le _, fun _ _ _ _ => rfl, HB.out, HX.out⟩
          case round =>
            obtain ⟨q, rfl, hq, hh, hb2, hx2⟩ := hrel
            have HH := Lib.hid hh
            have HB2 := Lib.hid hb2
            have HX2 := Lib.hid hx2
            clear hh hb2 hx2 c8
            obtain ⟨h', k', r, hdr⟩ := drop_cons (f := k) (i := 2 * m) (by have := HTt.out; omega)
            obtain ⟨rG, hdG⟩ := HGa.out m h' k' r hdr
            have HDG := Lib.hid hdG
            by_cases hgo2 : q < m
            · have hgi2 : ((2 * q : Nat) : Int) < ((2 * m : Nat) : Int) := by omega
              have hgi3 : ((2 * q : Nat) : Int) < (k.len : Int) := by omega
              obtain ⟨B, o, rfl, hB, _, hLi⟩ := HL.out (by have := HTt.out; omega)
              have hLj := lies_drop (2 * m) hLi
              rw [hdr] at hLj
              obtain ⟨⟨v', hc', hk'⟩, hu', _⟩ := lies_cons.1 hLj
              obtain ⟨h'', k'', r2, hdr2⟩ := drop_cons (f := k) (i := 2 * q) (by have := HTt.out; omega)
              have hLq := lies_drop (2 * q) hLi
              rw [hdr2] at hLq
              obtain ⟨⟨v'', hc'', hk''⟩, hu'', _⟩ := lies_cons.1 hLq
              obtain ⟨rG2, hdG2⟩ := HGa.out q h'' k'' r2 hdr2
              obtain ⟨r', hr1, hr2⟩ := take_drop_cons q m G hgo2 hdG2
              have HC' := Lib.hid (show Cells wr.drew B (o + 2 * m * 9) (h'.cells v') from hc'.below HB2.out.drew)
              have HC'' := Lib.hid (show Cells wr.drew B (o + 2 * q * 9) (h''.cells v'') from hc''.below HB2.out.drew)
              have HXd := Lib.hid (show Nx wr.drew w.heap.size h8 (.slice (some ⟨B, o, none⟩) k.len c) from HX2.out)
              have HBd := Lib.hid HB2.out.drew
              obtain ⟨Q, hQ⟩ : ∃ Q, Q = (sameH h' h'' && sameF k' k'') := ⟨_, rfl⟩
              have HQ := Lib.hid hQ
              have HI : Hid (∀ W, Below w.heap.size w W → Calls Tryz.prog 21 #[.agg (h'.cells v'), .agg (h''.cells v'')] W (BolP Q W)) := Lib.hid (fun W hW => by
                rw [hQ]
                exact rSame_calls k' k'' h' h'' v' v'' W (hk'.below hW) (hk''.below hW))
              have HE : Hid (hitF h' k' (G.take m) = (Q || hitF h' k' ((G.take m).drop (q + 1)))) := Lib.hid (by rw [HH.out h' k' rG hdG, hr1, hr2, hitF, hQ])
              clear hLi hLj hLq hc' hc'' hk' hk'' hu' hu'' hdr hdr2 hdG hdG2 hr1 hr2 hQ
              obtain ⟨M, hM⟩ : ∃ M : Nat, M = 2 * m := ⟨_, rfl⟩
              obtain ⟨N, hN⟩ : ∃ N : Nat, N = 2 * q := ⟨_, rfl⟩
              rw [← hM] at HC' hgi hgi2 ⊢
              rw [← hN] at HC'' hgi2 hgi3 ⊢
              have HM := Lib.hid hM
              have HNn := Lib.hid hN
              clear hM hN
              have c8 := HXd.out.c8
              go_wp2_with fail
              go_region_held3 (fun w' => (w'.cell? ⟨B, o + M * 9, none⟩ = some (.int .i64 h'.kind) ∧ w'.cell? ⟨B, o + M * 9 + 1, none⟩ = some (.bool h'.b) ∧ w'.cell? ⟨B, o + M * 9 + 2, none⟩ = some (.bool h'.neg) ∧ w'.cell? ⟨B, o + M * 9 + 3, none⟩ = some (.string h'.dig) ∧ w'.cell? ⟨B, o + M * 9 + 4, none⟩ = some (.int .i64 h'.exp) ∧ w'.cell? ⟨B, o + M * 9 + 5, none⟩ = some (.int .u64 (h'.u : Int)) ∧ w'.cell? ⟨B, o + M * 9 + 6, none⟩ = some (.int .i64 h'.w) ∧ w'.cell? ⟨B, o + M * 9 + 7, none⟩ = some (.string h'.s) ∧ w'.cell? ⟨B, o + M * 9 + 8, none⟩ = some (v')) ∧ (w'.cell? ⟨B, o + N * 9, none⟩ = some (.int .i64 h''.kind) ∧ w'.cell? ⟨B, o + N * 9 + 1, none⟩ = some (.bool h''.b) ∧ w'.cell? ⟨B, o + N * 9 + 2, none⟩ = some (.bool h''.neg) ∧ w'.cell? ⟨B, o + N * 9 + 3, none⟩ = some (.string h''.dig) ∧ w'.cell? ⟨B, o + N * 9 + 4, none⟩ = some (.int .i64 h''.exp) ∧ w'.cell? ⟨B, o + N * 9 + 5, none⟩ = some (.int .u64 (h''.u : Int)) ∧ w'.cell? ⟨B, o + N * 9 + 6, none⟩ = some (.int .i64 h''.w) ∧ w'.cell? ⟨B, o + N * 9 + 7, none⟩ = some (.string h''.s) ∧ w'.cell? ⟨B, o + N * 9 + 8, none⟩ = some (v'')) ∧ w'.cell? ⟨w.heap.size, 8, none⟩ = some (.slice (some ⟨B, o, none⟩) k.len c))
                (first | exact ⟨HC'.out.nine, HC''.out.nine, HXd.out.c8⟩ | exact ⟨(HC'.out.below hb3).nine, (HC''.out.below hb3).nine, (HXd.out.below hb3).c8⟩)
                (first | (go_at_call 21; refine (HI.out _ HBd.out).mono ?_; rintro o w3 ⟨rfl, hb3⟩))
              have HB3 := Lib.hid (below_nx HBd.out hb3)
              have HX3 := Lib.hid (HXd.out.below hb3)
              clear hb3 c8
              obtain rfl := HM.out
              obtain rfl := HNn.out
              cases Q with
              | true =>
                go_wp2_with fail
                go_ret
                refine ⟨?_, HB3.out⟩
                rw [HQm.out, HD.out, HDG.out, distG, HE.out, Bool.true_or]
                rfl
              | false =>
                have hqb : (q : Int) < 1353245080301 := by have := HLI.out; have := HTt.out; omega
                go_wp2_with fail
                go_roundw
                case rel => exact ⟨q + 1, by congr 1 <;> omega, hgo2, fun h1 k1 r1 e1 => by rw [HDG.out] at e1; cases e1; rw [HE.out, Bool.false_or], HB3.out, HX3.out⟩
                case measure => simp [intOf]; omega
            · have hgi2 : ¬ ((2 * q : Nat) : Int) < ((2 * m : Nat) : Int) := by omega
              have HE : Hid (hitF h' k' (G.take m) = false) := Lib.hid (by
                rw [HH.out h' k' rG hdG, show (G.take m).drop q = .nil by rw [show q = (G.take m).len by rw [take_len m G (by have := HGl.out; omega)]; omega, drop_end]]
                rfl)
              clear hdr hdG
              have hmb : (m : Int) < 1353245080301 := by have := HLI.out; have := HTt.out; omega
              go_wp2_with fail
              go_roundw
              case rel => exact ⟨m + 1, by congr 1 <;> omega, hgo, by rw [HD.out, HDG.out, distG, HE.out, take_app m G HDG.out, drop_succ m G HDG.out]; rfl, HB2.out, HX2.out⟩
              case measure => simp [intOf]; omega
        · have hgi : ¬ ((2 * m : Nat) : Int) < (k.len : Int) := by have := HTt.out; omega
          go_wp2_with fail
          go_ret
          refine ⟨?_, HB.out⟩
          rw [HQm.out, HD.out, show G.drop m = .nil by rw [show m = G.len by have := HGl.out; omega, drop_end]]
          rfl
    · have he2 : ((k.len : Int)).tmod 2 = 1 := by rw [Int.tmod_eq_emod_of_nonneg (by omega)]; omega
      have HQ : Hid (o_isMap h8 k = false) := Lib.hid (by rw [o_isMap, HJ.out, decide_eq_false he]; rfl)
      go_wp2_with fail
      go_ret
      exact ⟨by rw [HQ.out]; rfl, HB.out⟩
end Go.Proofs.YtcofhgdfoamhpaaGreatDoor
