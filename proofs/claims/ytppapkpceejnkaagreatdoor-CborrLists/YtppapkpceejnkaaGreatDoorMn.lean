/- The program's own: Same. The program's own: areDistinct. -/
import Derived.Test.YtppapkpceejnkaaGreatDoorMa
import Derived.Deep.RegionHeld3

namespace Go.Proofs.YtppapkpceejnkaaGreatDoor
open Go.RowKit

def sameF : Fo → Fo → Bool
  | .nil, .nil => true
  | .cons h k r, .cons h2 k2 r2 => sameH h h2 && sameF k k2 && sameF r r2
  | _, _ => false
theorem sameF_len : ∀ (a b : Fo), a.len ≠ b.len → sameF a b = false
  | .nil, .nil, h => absurd rfl h
  | .nil, .cons _ _ _, _ => rfl
  | .cons _ _ _, .nil, _ => rfl
  | .cons _ _ r, .cons _ _ r2, h => by simp only [sameF]; rw [sameF_len r r2 (by simp only [Fo.len] at h; omega), Bool.and_false]

set_option maxRecDepth 100000 in
set_option maxHeartbeats 1000000 in
theorem Same_any (n : Nat) : ∀ (k k2 : Fo) (h h2 : Hd) (v v2 : Value) (w : World), k.cnt < n → Kd An w v k → Kd An w v2 k2 →
    Calls Tryz.prog 169 #[.agg (h.cells v), .agg (h2.cells v2)] w (BolP (sameH h h2 && sameF k k2) w) := by
  induction n with
  | zero => intro k k2 h h2 v v2 w hn; omega
  | succ n ih =>
    intro k k2 h h2 v v2 w hn hk hk2
    obtain ⟨A, c, rfl, hc, hl, hL⟩ := hk.form
    obtain ⟨A2, c2, rfl, hc2, hl2, hL2⟩ := hk2.form
    have IH := Lib.hid ih
    have HL := Lib.hid hL
    have HL2 := Lib.hid hL2
    have HN := Lib.hid hn
    clear ih hL hL2 hk hk2 hn hc hc2
    obtain ⟨R, hR⟩ : ∃ R, R = (sameH h h2 && ((k.len : Int) == (k2.len : Int))) := ⟨_, rfl⟩
    have HR := Lib.hid hR
    obtain ⟨R2, hR2⟩ : ∃ R2, R2 = (sameH h h2 && sameF k k2) := ⟨_, rfl⟩
    rw [← hR2]
    have HR2 := Lib.hid hR2
    have HJu : Hid (∀ w, Calls Tryz.prog 125 #[.agg (h.cells (.slice A k.len c)), .agg (h2.cells (.slice A2 k2.len c2))] w (BolP R w)) := Lib.hid (fun w => by rw [hR]; exact isJust_calls h h2 A A2 k.len k2.len c c2 w)
    clear hR hR2
    simp only [Hd.cells] at HJu ⊢
    go_enter Tryz.func169, Tryz.ntmps169
    go_wp2_with fail
    refine (HJu.out _).mono ?_
    rintro o w1 ⟨rfl, hb1⟩
    have HX1 := Lib.hid (show Nx w1 w.heap.size h (.slice A k.len c) from ((Nx.new w h (.slice A k.len c)).alloc _).below hb1)
    have HX2 := Lib.hid (show Nx w1 (w.heap.size + 1) h2 (.slice A2 k2.len c2) from (show Nx _ (w.heap.size + 1) h2 (.slice A2 k2.len c2) from Bx.new1 w _ _ _).below hb1)
    have HB1 := Lib.hid (show Below w.heap.size w w1 from below_nx (below_a (below_a (Below.refl _ _) _) _) hb1)
    clear hb1 HJu
    cases R with
    | false =>
      go_wp2_with fail
      go_ret
      refine ⟨?_, HB1.out⟩
      rw [HR2.out]
      have e := HR.out
      cases hs : sameH h h2 with
      | false => rfl
      | true =>
        rw [hs, Bool.true_and] at e
        rw [sameF_len k k2 (fun e2 => by rw [e2] at e; simp at e)]
        rfl
    | true =>
      have c8 := HX1.out.c8
      go_wp2_with fail
      go_loopw [14] (fun i wr => ∃ j : Nat, i = .int .i64 j ∧ j ≤ k.len ∧ sameF k k2 = sameF (k.drop j) (k2.drop j) ∧ Below w.heap.size w wr ∧ Nx wr w.heap.size h (.slice A k.len c) ∧ Nx wr (w.heap.size + 1) h2 (.slice A2 k2.len c2)) (fun i _ => k.len - (intOf i).toNat)
      case atStart => exact ⟨0, rfl, Nat.zero_le _, rfl, HB1.out, HX1.out, HX2.out⟩
      case round =>
        obtain ⟨j, rfl, hj, hsd, hb, hx1, hx2⟩ := hrel
        have HB := Lib.hid hb
        have HX := Lib.hid hx1
        have HY := Lib.hid hx2
        have HSD := Lib.hid hsd
        clear hb hx1 hx2 hsd HX1 HX2 HB1 c8
        by_cases hgo : j < k.len
        · have hlen : k.len = k2.len := by
            have e := HR.out
            cases hs : sameH h h2 with
            | false => rw [hs] at e; cases e
            | true => rw [hs, Bool.true_and] at e; have := beq_iff_eq.1 e.symm; omega
          have hgo2 : j < k2.len := by omega
          obtain ⟨B, o, rfl, hB, _, hLi⟩ := HL.out (by omega)
          obtain ⟨B2, o2, rfl, hB2, _, hLi2⟩ := HL2.out (by omega)
          obtain ⟨h', k', r, hd⟩ := drop_cons hgo
          obtain ⟨h'', k'', r2, hd2⟩ := drop_cons hgo2
          have hLj := lies_drop j hLi
          have hLj2 := lies_drop j hLi2
          rw [hd] at hLj
          rw [hd2] at hLj2
          obtain ⟨⟨v', hc', hk'⟩, hu', _⟩ := lies_cons.1 hLj
          obtain ⟨⟨v'', hc'', hk''⟩, hu'', _⟩ := lies_cons.1 hLj2
          have HK' := Lib.hid hk'
          have HK'' := Lib.hid hk''
          have HD := Lib.hid hd
          have HD2 := Lib.hid hd2
          have HC' := Lib.hid (show Cells wr.drew B (o + j * 9) (h'.cells v') from hc'.below HB.out.drew)
          have HC'' := Lib.hid (show Cells wr.drew B2 (o2 + j * 9) (h''.cells v'') from hc''.below HB.out.drew)
          have HXd := Lib.hid (show Nx wr.drew w.heap.size h (.slice (some ⟨B, o, none⟩) k.len c) from HX.out)
          have HYd := Lib.hid (show Nx wr.drew (w.heap.size + 1) h2 (.slice (some ⟨B2, o2, none⟩) k2.len c2) from HY.out)
          have HBd := Lib.hid HB.out.drew
          clear hLi hLj hc' hk' hd hLi2 hLj2 hc'' hk'' hd2 hu' hu''
          have i1 : (j : Int) < (k.len : Int) := by omega
          have i2 : (j : Int) < (k2.len : Int) := by omega
          clear hlen
          obtain ⟨Q, hQ⟩ : ∃ Q, Q = (sameH h' h'' && sameF k' k'') := ⟨_, rfl⟩
          have HQ := Lib.hid hQ
          have HI : Hid (∀ W, Below w.heap.size w W → Calls Tryz.prog 169 #[.agg (h'.cells v'), .agg (h''.cells v'')] W (BolP Q W)) := Lib.hid (fun W hW => by
            rw [hQ]
            exact IH.out k' k'' h' h'' v' v'' W (by have := drop_cnt j k; rw [HD.out, Fo.cnt] at this; have := HN.out; omega) (HK'.out.below hW) (HK''.out.below hW))
          clear hQ
          go_wp2_with fail
          go_region_held3 (fun w' => (w'.cell? ⟨B, o + j * 9, none⟩ = some (.int .i64 h'.kind) ∧ w'.cell? ⟨B, o + j * 9 + 1, none⟩ = some (.bool h'.b) ∧ w'.cell? ⟨B, o + j * 9 + 2, none⟩ = some (.bool h'.neg) ∧ w'.cell? ⟨B, o + j * 9 + 3, none⟩ = some (.string h'.dig) ∧ w'.cell? ⟨B, o + j * 9 + 4, none⟩ = some (.int .i64 h'.exp) ∧ w'.cell? ⟨B, o + j * 9 + 5, none⟩ = some (.int .u64 (h'.u : Int)) ∧ w'.cell? ⟨B, o + j * 9 + 6, none⟩ = some (.int .i64 h'.w) ∧ w'.cell? ⟨B, o + j * 9 + 7, none⟩ = some (.string h'.s) ∧ w'.cell? ⟨B, o + j * 9 + 8, none⟩ = some (v')) ∧ (w'.cell? ⟨B2, o2 + j * 9, none⟩ = some (.int .i64 h''.kind) ∧ w'.cell? ⟨B2, o2 + j * 9 + 1, none⟩ = some (.bool h''.b) ∧ w'.cell? ⟨B2, o2 + j * 9 + 2, none⟩ = some (.bool h''.neg) ∧ w'.cell? ⟨B2, o2 + j * 9 + 3, none⟩ = some (.string h''.dig) ∧ w'.cell? ⟨B2, o2 + j * 9 + 4, none⟩ = some (.int .i64 h''.exp) ∧ w'.cell? ⟨B2, o2 + j * 9 + 5, none⟩ = some (.int .u64 (h''.u : Int)) ∧ w'.cell? ⟨B2, o2 + j * 9 + 6, none⟩ = some (.int .i64 h''.w) ∧ w'.cell? ⟨B2, o2 + j * 9 + 7, none⟩ = some (.string h''.s) ∧ w'.cell? ⟨B2, o2 + j * 9 + 8, none⟩ = some (v'')) ∧ w'.cell? ⟨w.heap.size, 8, none⟩ = some (.slice (some ⟨B, o, none⟩) k.len c) ∧ w'.cell? ⟨w.heap.size + 1, 8, none⟩ = some (.slice (some ⟨B2, o2, none⟩) k2.len c2))
            (first | exact ⟨HC'.out.nine, HC''.out.nine, HXd.out.c8, HYd.out.c8⟩ | exact ⟨(HC'.out.below hb2).nine, (HC''.out.below hb2).nine, (HXd.out.below hb2).c8, (HYd.out.below hb2).c8⟩)
            (first | (go_at_call 169; refine (HI.out _ HBd.out).mono ?_; rintro o w2 ⟨rfl, hb2⟩))
          have HB2 := Lib.hid (below_nx HBd.out hb2)
          have HX3 := Lib.hid (HXd.out.below hb2)
          have HY3 := Lib.hid (HYd.out.below hb2)
          have HE : Hid (sameF k k2 = (sameH h' h'' && sameF k' k'' && sameF r r2)) := Lib.hid (by rw [HSD.out, HD.out, HD2.out]; rfl)
          clear hb2
          cases Q with
          | true =>
            go_wp2_with fail
            refine ⟨⟨j + 1, by go_num, hgo, by rw [HE.out, ← HQ.out, Bool.true_and, drop_succ j k HD.out, drop_succ j k2 HD2.out], HB2.out, HX3.out, HY3.out⟩, ?_⟩
            simp [intOf]; omega
          | false =>
            go_wp2_with fail
            go_ret
            refine ⟨?_, HB2.out⟩
            rw [HR2.out, HE.out, ← HQ.out, Bool.false_and, Bool.and_false]
            rfl
        · go_wp2_with fail
          go_ret
          refine ⟨?_, HB.out⟩
          have e := HR.out
          cases hs : sameH h h2 with
          | false => rw [hs] at e; cases e
          | true =>
            rw [hs, Bool.true_and] at e
            have hl := beq_iff_eq.1 e.symm
            rw [HR2.out, hs, HSD.out, show k.drop j = .nil by rw [show j = k.len by omega, drop_end], show k2.drop j = .nil by rw [show j = k2.len by omega, drop_end]]
            rfl
theorem Same_calls (k k2 : Fo) (h h2 : Hd) (v v2 : Value) (w : World) (hk : Kd An w v k) (hk2 : Kd An w v2 k2) :
    Calls Tryz.prog 169 #[.agg (h.cells v), .agg (h2.cells v2)] w (BolP (sameH h h2 && sameF k k2) w) := Same_any (k.cnt + 1) k k2 h h2 v v2 w (by omega) hk hk2
end Go.Proofs.YtppapkpceejnkaaGreatDoor

namespace Go.Proofs.YtppapkpceejnkaaGreatDoor
open Go.RowKit

def hitF (h : Hd) (k : Fo) : Fo → Bool
  | .nil => false
  | .cons h2 k2 r => (sameH h h2 && sameF k k2) || hitF h k r
def distG : Fo → Fo → Bool
  | _, .nil => true
  | pre, .cons h k r => !hitF h k pre && distG (pre.app (.cons h k .nil)) r
def distF (f : Fo) : Bool := distG .nil f
theorem take_drop_cons : ∀ (j i : Nat) (f : Fo) {h : Hd} {k r : Fo}, j < i → f.drop j = .cons h k r → ∃ r', (f.take i).drop j = .cons h k r' ∧ (f.take i).drop (j + 1) = r'
  | 0, i + 1, .cons _ _ _, _, _, _, _, e => by cases e; exact ⟨_, rfl, rfl⟩
  | 0, _, .nil, _, _, _, _, e => by cases e
  | _ + 1, _, .nil, _, _, _, _, e => by cases e
  | j + 1, i + 1, .cons _ _ r, _, _, _, hj, e => by
    obtain ⟨r', h1, h2⟩ := take_drop_cons j i r (by omega) e
    exact ⟨r', h1, h2⟩
set_option maxRecDepth 100000 in
set_option maxHeartbeats 1000000 in
theorem areDistinct_calls (f : Fo) (v : Value) (w : World) (hk : Kd An w v f) : Calls Tryz.prog 129 #[v] w (BolP (distF f) w) := by
  obtain ⟨A, c, rfl, hc, hl, hL⟩ := hk.form
  have HL := Lib.hid hL
  clear hL hk
  go_enter Tryz.func129, Tryz.ntmps129
  go_wp2_with fail
  go_loopw [9] (fun i wr => ∃ j : Nat, i = .int .i64 j ∧ j ≤ f.len ∧ distF f = distG (f.take j) (f.drop j) ∧ Below w.heap.size w wr) (fun i _ => f.len - (intOf i).toNat)
  case atStart => exact ⟨0, rfl, Nat.zero_le _, rfl, Below.refl _ _⟩
  case round =>
    obtain ⟨j, rfl, hj, hd, hb⟩ := hrel
    have HD := Lib.hid hd
    have HB := Lib.hid hb
    clear hd hb
    by_cases hgo : j < f.len
    · obtain ⟨B, o, rfl, hB, _, hLi⟩ := HL.out (by omega)
      obtain ⟨h', k', r, hdr⟩ := drop_cons hgo
      have hLj := lies_drop j hLi
      rw [hdr] at hLj
      obtain ⟨⟨v', hc', hk'⟩, hu', _⟩ := lies_cons.1 hLj
      have HK' := Lib.hid hk'
      obtain ⟨A', c', rfl, _, _, _⟩ := hk'.form
      have HDr := Lib.hid hdr
      have HLi := Lib.hid hLi
      obtain ⟨d0, d1, d2, d3, d4, d5, d6, d7, d8⟩ := (hc'.below HB.out).nine
      have HNew := Lib.hid (Nx.new wr h' (.slice A' k'.len c'))
      have HBn := Lib.hid (below_a HB.out (.cells #[.int .i64 h'.kind, .bool h'.b, .bool h'.neg, .string h'.dig, .int .i64 h'.exp, .int .u64 (h'.u : Int), .int .i64 h'.w, .string h'.s, .slice A' k'.len c'] 28))
      clear hLi hLj hc' hk' hdr hu'
      have hjc : (j : Int) ≤ (c : Int) := by omega
      go_wp2_with fail
      go_loopw [18] (fun i2 wr2 => ∃ q : Nat, i2 = .int .i64 q ∧ q ≤ j ∧ hitF h' k' (f.take j) = hitF h' k' ((f.take j).drop q) ∧ Below w.heap.size w wr2 ∧ Nx wr2 wr.heap.size h' (.slice A' k'.len c')) (fun i2 _ => j - (intOf i2).toNat)
      case atStart => exact ⟨0, rfl, Nat.zero_le _, rfl, HBn.out, HNew.out⟩
      case round =>
        obtain ⟨q, rfl, hq, hh, hb2, hx2⟩ := hrel
        have HH := Lib.hid hh
        have HB2 := Lib.hid hb2
        have HX2 := Lib.hid hx2
        clear hh hb2 hx2 HNew HBn d0 d1 d2 d3 d4 d5 d6 d7 d8
        by_cases hgo2 : q < j
        · obtain ⟨h'', k'', r2, hdr2⟩ := drop_cons (f := f) (i := q) (by omega)
          have hLq := lies_drop q HLi.out
          rw [hdr2] at hLq
          obtain ⟨⟨v'', hc'', hk''⟩, hu'', _⟩ := lies_cons.1 hLq
          have HK'' := Lib.hid hk''
          obtain ⟨A'', c'', rfl, _, _, _⟩ := hk''.form
          have HDr2 := Lib.hid hdr2
          obtain ⟨d0, d1, d2, d3, d4, d5, d6, d7, d8⟩ := (hc''.below HB2.out).nine
          obtain ⟨q0, q1, q2, q3, q4, q5, q6, q7, q8⟩ := HX2.out.nine
          have hxl := HX2.out.lt
          obtain ⟨Q, hQ⟩ : ∃ Q, Q = (sameH h' h'' && sameF k' k'') := ⟨_, rfl⟩
          have HQ := Lib.hid hQ
          have HS : Hid (∀ W, Below w.heap.size w W → Calls Tryz.prog 169 #[.agg (h'.cells (.slice A' k'.len c')), .agg (h''.cells (.slice A'' k''.len c''))] W (BolP Q W)) := Lib.hid (fun W hW => by rw [hQ]; exact Same_calls k' k'' h' h'' _ _ W (HK'.out.below hW) (HK''.out.below hW))
          clear hLq hc'' hk'' hdr2 hu'' hQ
          obtain ⟨r', hr1, hr2⟩ := take_drop_cons q j f hgo2 HDr2.out
          have HE : Hid (hitF h' k' (f.take j) = (Q || hitF h' k' ((f.take j).drop (q + 1)))) := Lib.hid (by rw [HH.out, hr1, hr2, hitF, HQ.out])
          clear hr1 hr2
          go_wp2_with fail
          refine (HS.out _ (below_a HB2.out _)).mono ?_
          rintro o1 w1 ⟨rfl, hb1⟩
          have HB3 := Lib.hid (below_nx (below_a HB2.out _) hb1)
          have HX3 := Lib.hid ((HX2.out.alloc _).below hb1)
          clear hb1 q0 q1 q2 q3 q4 q5 q6 q7 q8 d0 d1 d2 d3 d4 d5 d6 d7 d8
          cases Q with
          | true =>
            go_wp2_with fail
            go_ret
            refine ⟨?_, HB3.out⟩
            rw [HD.out, HDr.out, distG, HE.out, Bool.true_or]
            rfl
          | false =>
            go_wp2_with fail
            go_roundw
            case rel => exact ⟨q + 1, by go_num, hgo2, by rw [HE.out, Bool.false_or], HB3.out, HX3.out⟩
            case measure => simp [intOf]; omega
        · have HE : Hid (hitF h' k' (f.take j) = false) := Lib.hid (by
            rw [HH.out, show (f.take j).drop q = .nil by rw [show q = (f.take j).len by rw [take_len j f (by omega)]; omega, drop_end]]
            rfl)
          go_wp2_with fail
          go_roundw
          case rel => exact ⟨j + 1, by go_num, hgo, by rw [HD.out, HDr.out, distG, HE.out, take_app j f HDr.out, drop_succ j f HDr.out]; rfl, HB2.out⟩
          case measure => simp [intOf]; omega
    · go_wp2_with fail
      go_ret
      refine ⟨?_, HB.out⟩
      rw [HD.out, show f.drop j = .nil by rw [show j = f.len by omega, drop_end]]
      rfl
end Go.Proofs.YtppapkpceejnkaaGreatDoor
