/- The document's own: Same. -/
import Derived.Test.YtppapkpceejnkaaGreatDoorMn
import Derived.WideShapes
namespace Go.Proofs.YtppapkpceejnkaaGreatDoor
open Go.RowKit

theorem sameH_eq {h h2 : Hd} (e : sameH h h2 = true) : h = h2 := by
  simp only [sameH, Bool.and_eq_true, decide_eq_true_eq, beq_iff_eq, Lib.toList_data] at e
  obtain ⟨⟨⟨⟨⟨e1, e2⟩, ⟨e3, e4⟩, e5⟩, e6⟩, e7⟩, e8⟩ := e
  cases h
  cases h2
  simp only at e1 e2 e3 e4 e5 e6 e7 e8
  rw [e1, e2, e3, Go.WideShapes.bytes_inj e4, e5, Int.ofNat.inj e6, e7, Go.WideShapes.bytes_inj e8]
set_option maxRecDepth 100000 in
set_option maxHeartbeats 2000000 in
theorem rSame_any (n : Nat) : ∀ (k k2 : Fo) (h h2 : Hd) (v v2 : Value) (w : World), k.cnt < n → Kd An w v k → Kd An w v2 k2 →
    Calls Tryz.prog 19 #[.agg (h.cells v), .agg (h2.cells v2)] w (BolP (sameH h h2 && sameF k k2) w) := by
  induction n with
  | zero => intro k k2 h h2 v v2 w hn; omega
  | succ n ih =>
    intro k k2 h h2 v v2 w hn hk hk2
    obtain ⟨A, c, rfl, hc, hl, hL⟩ := hk.form
    obtain ⟨A2, c2, rfl, hc2, hl2, hL2⟩ := hk2.form
    have IH := Lib.hid ih
    have HL := Lib.hid hL
    have HL2 := Lib.hid hL2
    have HN := Lib.hid hn
    clear ih hL hL2 hk hk2 hn hc hc2
    by_cases hR : (sameH h h2 && ((k.len : Int) == (k2.len : Int))) = true
    · have hR' := hR
      rw [Bool.and_eq_true] at hR'
      obtain ⟨hs, hlb⟩ := hR'
      have hleq : k.len = k2.len := by have := beq_iff_eq.1 hlb; omega
      have HR : Hid (true = (sameH h h2 && ((k.len : Int) == (k2.len : Int)))) := Lib.hid hR.symm
      obtain rfl := sameH_eq hs
      rw [show (Value.slice A2 k2.len c2) = Value.slice A2 k.len c2 by rw [hleq]]
      clear hR hs hlb hleq hl2
      obtain ⟨R2, hR2⟩ : ∃ R2, R2 = (sameH h h && sameF k k2) := ⟨_, rfl⟩
      rw [← hR2]
      have HR2 := Lib.hid hR2
      clear hR2
      simp only [Hd.cells]
      go_enter Tryz.func19, Tryz.ntmps19
      have HX1 := Lib.hid (show Nx _ w.heap.size h (.slice A k.len c) from ((Nx.new w h (.slice A k.len c)).alloc (.cells (h.cells (.slice A2 k.len c2)) 28)))
      have HX2 := Lib.hid (show Nx ((w.alloc (.cells (h.cells (.slice A k.len c)) 28)).alloc (.cells (h.cells (.slice A2 k.len c2)) 28)) (w.heap.size + 1) h (.slice A2 k.len c2) from Bx.new1 w _ _ _)
      have HB1 := Lib.hid (show Below w.heap.size w ((w.alloc (.cells (h.cells (.slice A k.len c)) 28)).alloc (.cells (h.cells (.slice A2 k.len c2)) 28)) from below_a (below_a (Below.refl _ _) _) _)
      have c8q := HX1.out.c8
      go_wp2_with fail
      go_loopw [5] (fun i wr => ∃ j : Nat, i = .int .i64 j ∧ j ≤ k.len ∧ sameF k k2 = sameF (k.drop j) (k2.drop j) ∧ Below w.heap.size w wr ∧ Nx wr w.heap.size h (.slice A k.len c) ∧ Nx wr (w.heap.size + 1) h (.slice A2 k.len c2)) (fun i _ => k.len - (intOf i).toNat)
      case atStart => exact ⟨0, rfl, Nat.zero_le _, rfl, HB1.out, HX1.out, HX2.out⟩
      case round =>
        obtain ⟨j, rfl, hj, hsd, hb, hx1, hx2⟩ := hrel
        have HB := Lib.hid hb
        have HX := Lib.hid hx1
        have HY := Lib.hid hx2
        have HSD := Lib.hid hsd
        have c8 := hx1.c8
        clear hb hx1 hx2 hsd HX1 HX2 HB1
        by_cases hgo : j < k.len
        · have hlen : k.len = k2.len := by
            have e := HR.out
            cases hs : sameH h h with
            | false => rw [hs] at e; cases e
            | true => rw [hs, Bool.true_and] at e; have := beq_iff_eq.1 e.symm; omega
          have hgo2 : j < k2.len := by omega
          obtain ⟨B, o, rfl, hB, _, hLi⟩ := HL.out (by omega)
          obtain ⟨B2, o2, rfl, hB2, _, hLi2⟩ := HL2.out (by omega)
          obtain ⟨h', k', r, hd⟩ := drop_cons hgo
          obtain ⟨h'', k'', r2, hd2⟩ := drop_cons hgo2
          have hLj := lies_drop j hLi
          have hLj2 := lies_drop j hLi2
          rw [hd] at hLj
          rw [hd2] at hLj2
          obtain ⟨⟨v', hc', hk'⟩, hu', _⟩ := lies_cons.1 hLj
          obtain ⟨⟨v'', hc'', hk''⟩, hu'', _⟩ := lies_cons.1 hLj2
          have HK' := Lib.hid hk'
          have HK'' := Lib.hid hk''
          have HD := Lib.hid hd
          have HD2 := Lib.hid hd2
          have HC' := Lib.hid (show Cells wr.drew B (o + j * 9) (h'.cells v') from hc'.below HB.out.drew)
          have HC'' := Lib.hid (show Cells wr.drew B2 (o2 + j * 9) (h''.cells v'') from hc''.below HB.out.drew)
          have HXd := Lib.hid (show Nx wr.drew w.heap.size h (.slice (some ⟨B, o, none⟩) k.len c) from HX.out)
          have HYd := Lib.hid (show Nx wr.drew (w.heap.size + 1) h (.slice (some ⟨B2, o2, none⟩) k.len c2) from HY.out)
          have HBd := Lib.hid HB.out.drew
          clear hLi hLj hc' hk' hd hLi2 hLj2 hc'' hk'' hd2 hu' hu''
          have i1 : (j : Int) < (k.len : Int) := by omega
          clear hlen hgo2
          obtain ⟨Q, hQ⟩ : ∃ Q, Q = (sameH h' h'' && sameF k' k'') := ⟨_, rfl⟩
          have HQ := Lib.hid hQ
          have HI : Hid (∀ W, Below w.heap.size w W → Calls Tryz.prog 19 #[.agg (h'.cells v'), .agg (h''.cells v'')] W (BolP Q W)) := Lib.hid (fun W hW => by
            rw [hQ]
            exact IH.out k' k'' h' h'' v' v'' W (by have := drop_cnt j k; rw [HD.out, Fo.cnt] at this; have := HN.out; omega) (HK'.out.below hW) (HK''.out.below hW))
          clear hQ
          go_wp2_with fail
          go_region_held3 (fun w' => (w'.cell? ⟨B, o + j * 9, none⟩ = some (.int .i64 h'.kind) ∧ w'.cell? ⟨B, o + j * 9 + 1, none⟩ = some (.bool h'.b) ∧ w'.cell? ⟨B, o + j * 9 + 2, none⟩ = some (.bool h'.neg) ∧ w'.cell? ⟨B, o + j * 9 + 3, none⟩ = some (.string h'.dig) ∧ w'.cell? ⟨B, o + j * 9 + 4, none⟩ = some (.int .i64 h'.exp) ∧ w'.cell? ⟨B, o + j * 9 + 5, none⟩ = some (.int .u64 (h'.u : Int)) ∧ w'.cell? ⟨B, o + j * 9 + 6, none⟩ = some (.int .i64 h'.w) ∧ w'.cell? ⟨B, o + j * 9 + 7, none⟩ = some (.string h'.s) ∧ w'.cell? ⟨B, o + j * 9 + 8, none⟩ = some (v')) ∧ (w'.cell? ⟨B2, o2 + j * 9, none⟩ = some (.int .i64 h''.kind) ∧ w'.cell? ⟨B2, o2 + j * 9 + 1, none⟩ = some (.bool h''.b) ∧ w'.cell? ⟨B2, o2 + j * 9 + 2, none⟩ = some (.bool h''.neg) ∧ w'.cell? ⟨B2, o2 + j * 9 + 3, none⟩ = some (.string h''.dig) ∧ w'.cell? ⟨B2, o2 + j * 9 + 4, none⟩ = some (.int .i64 h''.exp) ∧ w'.cell? ⟨B2, o2 + j * 9 + 5, none⟩ = some (.int .u64 (h''.u : Int)) ∧ w'.cell? ⟨B2, o2 + j * 9 + 6, none⟩ = some (.int .i64 h''.w) ∧ w'.cell? ⟨B2, o2 + j * 9 + 7, none⟩ = some (.string h''.s) ∧ w'.cell? ⟨B2, o2 + j * 9 + 8, none⟩ = some (v'')) ∧ w'.cell? ⟨w.heap.size, 8, none⟩ = some (.slice (some ⟨B, o, none⟩) k.len c) ∧ w'.cell? ⟨w.heap.size + 1, 8, none⟩ = some (.slice (some ⟨B2, o2, none⟩) k.len c2))
            (first | exact ⟨HC'.out.nine, HC''.out.nine, HXd.out.c8, HYd.out.c8⟩ | exact ⟨(HC'.out.below hb2).nine, (HC''.out.below hb2).nine, (HXd.out.below hb2).c8, (HYd.out.below hb2).c8⟩)
            (first | (go_at_call 19; refine (HI.out _ HBd.out).mono ?_; rintro o w2 ⟨rfl, hb2⟩))
          have HB2 := Lib.hid (below_nx HBd.out hb2)
          have HX3 := Lib.hid (HXd.out.below hb2)
          have HY3 := Lib.hid (HYd.out.below hb2)
          have HE : Hid (sameF k k2 = (sameH h' h'' && sameF k' k'' && sameF r r2)) := Lib.hid (by rw [HSD.out, HD.out, HD2.out]; rfl)
          clear hb2
          cases Q with
          | true =>
            go_wp2_with fail
            go_roundw
            case rel => exact ⟨j + 1, by go_num, hgo, by rw [HE.out, ← HQ.out, Bool.true_and, drop_succ j k HD.out, drop_succ j k2 HD2.out], HB2.out, HX3.out, HY3.out⟩
            case measure => simp [intOf]; omega
          | false =>
            go_wp2_with fail
            go_ret
            refine ⟨?_, HB2.out⟩
            rw [HR2.out, HE.out, ← HQ.out, Bool.false_and, Bool.and_false]
            rfl
        · go_wp2_with fail
          go_ret
          refine ⟨?_, HB.out⟩
          have e := HR.out
          cases hs : sameH h h with
          | false => rw [hs] at e; cases e
          | true =>
            rw [hs, Bool.true_and] at e
            have hl := beq_iff_eq.1 e.symm
            rw [HR2.out, hs, HSD.out, show k.drop j = .nil by rw [show j = k.len by omega, drop_end], show k2.drop j = .nil by rw [show j = k2.len by omega, drop_end]]
            rfl
    · obtain ⟨R2, hR2⟩ : ∃ R2, R2 = (sameH h h2 && sameF k k2) := ⟨_, rfl⟩
      rw [← hR2]
      have HF : Hid (R2 = false) := Lib.hid (by
        rw [hR2]
        cases hs : sameH h h2 with
        | false => rfl
        | true =>
          rw [hs, Bool.true_and] at hR
          rw [sameF_len k k2 (fun e2 => hR (by rw [e2]; exact beq_self_eq_true _))]
          rfl)
      rw [HF.out]
      have HR := Lib.hid hR
      clear hR2 hR HF
      simp only [Hd.cells]
      go_enter Tryz.func19, Tryz.ntmps19
      go_wp2
      all_goals first
        | (go_ret; exact ⟨rfl, below_a (below_a (Below.refl _ _) _) _⟩)
        | (exfalso; have hq := HR.out; simp_all [sameH]; done)
theorem rSame_calls (k k2 : Fo) (h h2 : Hd) (v v2 : Value) (w : World) (hk : Kd An w v k) (hk2 : Kd An w v2 k2) :
    Calls Tryz.prog 19 #[.agg (h.cells v), .agg (h2.cells v2)] w (BolP (sameH h h2 && sameF k k2) w) := rSame_any (k.cnt + 1) k k2 h h2 v v2 w (by omega) hk hk2
end Go.Proofs.YtppapkpceejnkaaGreatDoor
