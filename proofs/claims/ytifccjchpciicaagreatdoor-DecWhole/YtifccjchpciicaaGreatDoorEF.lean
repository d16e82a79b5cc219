/- The walk of Parse. -/
import Derived.Test.YtifccjchpciicaaGreatDoorEE
import Derived.ScopeJumps
namespace Go.Proofs.YtifccjchpciicaaGreatDoor
open Go.RowKit
open Go.Lib (decDigits nDigits)

/-- Where Parse jumps: the text, the place of the result; nothing old has turned. -/
def JumpsP (s : ByteArray) (w : World) (a : Act) (w' : World) : Prop := (∃ u1 u3 u4 u5 u6 u7 u8 u9 u10 u11 u12 u13 u14 u15 u16 u17 u18 u19 u20 u21 u22 u23 u24 u25 u26 u27 u28 u29 u30 u31 u32 : Value, a = { tmps := #[.string s, u1, .pointer (some ⟨w.heap.size, 0, none⟩), u3, u4, u5, u6, u7, u8, u9, u10, u11, u12, u13, u14, u15, u16, u17, u18, u19, u20, u21, u22, u23, u24, u25, u26, u27, u28, u29, u30, u31, u32], defers := [] }) ∧ DecAt w' w.heap.size false ⟨#[]⟩ 0 ∧ Below w.heap.size w w' ∧ parseR s.data.toList = none
theorem rd_setD {W : World} {B D : Nat} {s : ByteArray} {n : Bool} {wh fr : ByteArray} {le : Bool} {po : ByteArray} {n' : Bool} {s' : ByteArray} {e' : Int} (h : RdAt W B s n wh fr le po) (hne : B ≠ D) : RdAt (setD W D n' s' e') B s n wh fr le po :=
  (heap_setCell_other _ ⟨D, 2, none⟩ B _ hne).trans ((heap_setCell_other _ ⟨D, 1, none⟩ B _ hne).trans ((heap_setCell_other _ ⟨D, 0, none⟩ B _ hne).trans h))
/-- The world in which number is called. -/
def pW (w : World) (s : ByteArray) : World := ((w.alloc (.cells #[.bool false, .string ⟨#[]⟩, .int .i64 0] 24)).alloc (.cells #[.string s, .bool false, .string ⟨#[]⟩, .string ⟨#[]⟩, .bool false, .string ⟨#[]⟩] 49)).alloc (.cells #[.bool false, .string ⟨#[]⟩, .int .i64 0] 24)
theorem RD2 (w : World) (s : ByteArray) : RdAt (pW w s) (w.heap.size + 1) s false ⟨#[]⟩ ⟨#[]⟩ false ⟨#[]⟩ := by
  have := heap_alloc_new (w.alloc (.cells #[.bool false, .string ⟨#[]⟩, .int .i64 0] 24)) (.cells #[.string s, .bool false, .string ⟨#[]⟩, .string ⟨#[]⟩, .bool false, .string ⟨#[]⟩] 49)
  rw [World.size_alloc] at this
  exact (Below.heap_alloc _ _ _ (by simp)).trans this
theorem RA2 (w : World) (s : ByteArray) : DecAt (pW w s) w.heap.size false ⟨#[]⟩ 0 := ((DecAt.new w false ⟨#[]⟩ 0).alloc _).alloc _
theorem RX2 (w : World) (s : ByteArray) : DecAt (pW w s) (w.heap.size + 1 + 1) false ⟨#[]⟩ 0 := by
  have := DecAt.new ((w.alloc (.cells #[.bool false, .string ⟨#[]⟩, .int .i64 0] 24)).alloc (.cells #[.string s, .bool false, .string ⟨#[]⟩, .string ⟨#[]⟩, .bool false, .string ⟨#[]⟩] 49)) false ⟨#[]⟩ 0
  rw [World.size_alloc, World.size_alloc] at this
  exact this
theorem RB2 (w : World) (s : ByteArray) : Below w.heap.size w (pW w s) := (((Below.refl _ w).alloc (Nat.le_refl _) _).alloc (by simp) _).alloc (by simp; omega) _

set_option maxRecDepth 100000 in
set_option maxHeartbeats 2000000 in
theorem pParse_calls (s : ByteArray) (w : World) (hs : s.size ≤ 100000) : Calls Tryz.prog 13 #[.string s] w (ParP s (parseR s.data.toList) w) := by
  have HA0 := Lib.hid (DecAt.new w false ⟨#[]⟩ 0)
  have HB0 := Lib.hid ((Below.refl _ w).alloc (Nat.le_refl _) (.cells #[.bool false, .string ⟨#[]⟩, .int .i64 0] 24))
  go_enter Tryz.func13, Tryz.ntmps13
  go_wp2
  refine wp_scope_jumps 0 (JumpsP s w) (fun _ _ => 0) rfl ?first ?pass
  case pass =>
    rintro a w' ⟨⟨u1, u3, u4, u5, u6, u7, u8, u9, u10, u11, u12, u13, u14, u15, u16, u17, u18, u19, u20, u21, u22, u23, u24, u25, u26, u27, u28, u29, u30, u31, u32, rfl⟩, hd, hb, hnone⟩
    have HB := Lib.hid hb
    have HN := Lib.hid hnone
    have c0 := hd.c0
    have c1 := hd.c1
    have c2 := hd.c2
    have f0 := hd.f 0
    have f1 := hd.f 1
    have f2 := hd.f 2
    have hz := hd.lt
    clear hb hnone hd HA0 HB0
    go_wp2
    rw [jump_ret]
    go_wp2
    refine bodyPost_ret (v := .tuple #[.agg #[.bool false, .string ⟨#[]⟩, .int .i64 0], .string s, .int .i64 40]) (by simp [results, Tryz.results13, go_sem, c0, c1, c2]) rfl ?_
    exact ⟨by rw [HN.out]; rfl, bel3 HB.out (Nat.le_refl _) _ _ _⟩
  case first =>
    have HR2 := Lib.hid (RD2 w s)
    have HA2 := Lib.hid (RA2 w s)
    have HD2 := Lib.hid (RX2 w s)
    have HB2 := Lib.hid (RB2 w s)
    have hs2 : (pW w s).heap.size = w.heap.size + 1 + 1 + 1 := by simp [pW]
    obtain ⟨W2, hW2⟩ : ∃ W2, W2 = pW w s := ⟨_, rfl⟩
    rw [← hW2] at HR2 HA2 HD2 HB2 hs2
    unfold pW at hW2
    go_wp2_with fail
    rw [← hW2]
    clear hW2
    refine (number_calls (w.heap.size + 1) s W2 HR2.out).mono ?_
    rintro o w3 ⟨hk3, hcase⟩
    have HA3 := Lib.hid (hk3.dec HA2.out (by omega))
    have HD3 := Lib.hid (hk3.dec HD2.out (by omega))
    have HB3 := Lib.hid (HB2.out.trans (hk3.toBelow (by omega) (by omega)))
    clear hk3
    rcases hcase with ⟨h0, rfl⟩ | ⟨h0, rfl, R, wh, fr, po, n, le, hnum, hrd⟩
    · have HN : Hid (parseR s.data.toList = none) := Lib.hid (by rw [parseR, if_pos h0])
      clear h0
      go_wp2
      go_step3
      exact ⟨rfl, ⟨_, _, _, _, _, _, _, _, _, _, _, _, _, _, _, _, _, _, _, _, _, _, _, _, _, _, _, _, _, _, _, rfl⟩, HA3.out, HB3.out, HN.out⟩
    · obtain ⟨hdg, hwl, hfl, hlong, hshort⟩ := parse_parts hnum h0
      rw [← Lib.size_eq] at hwl hfl
      have HRd := Lib.hid hrd
      have HDg := Lib.hid hdg
      have HLg := Lib.hid hlong
      have HSh := Lib.hid hshort
      clear h0 hnum hrd hdg hlong hshort
      cases hb1 : decide ((wh.size : Int) + (fr.size : Int) ≤ 400) with
      | false =>
        have HN : Hid (parseR s.data.toList = none) := Lib.hid (by
          have h400 : 400 < (wh ++ fr).data.toList.length := by
            rw [← Lib.size_eq, ByteArray.size_append]; simp at hb1; omega
          by_cases h4 : 4 < po.size
          · exact HLg.out h4
          · rw [HSh.out (by omega)]; exact withR_long h400)
        have HSt := Lib.hid (short_p (w.heap.size + 1) R n wh fr le po w3 HRd.out (by omega) (by omega) _ _ hb1 rfl)
        clear hb1
        go_wp2_with (go_at_call 25; refine HSt.out.mono ?_; rintro o w4 ⟨rfl, m, rfl⟩)
        go_step3
        exact ⟨rfl, ⟨_, _, _, _, _, _, _, _, _, _, _, _, _, _, _, _, _, _, _, _, _, _, _, _, _, _, _, _, _, _, _, rfl⟩, HA3.out, below_drewN HB3.out m, HN.out⟩
      | true =>
        cases hb2 : decide ((po.size : Int) ≤ 4) with
        | false =>
          have HN : Hid (parseR s.data.toList = none) := Lib.hid (HLg.out (by simp at hb2; omega))
          have HSt := Lib.hid (short_p (w.heap.size + 1) R n wh fr le po w3 HRd.out (by omega) (by omega) _ _ hb1 hb2)
          clear hb1 hb2
          go_wp2_with (go_at_call 25; refine HSt.out.mono ?_; rintro o w4 ⟨rfl, m, rfl⟩)
          go_step3
          exact ⟨rfl, ⟨_, _, _, _, _, _, _, _, _, _, _, _, _, _, _, _, _, _, _, _, _, _, _, _, _, _, _, _, _, _, _, rfl⟩, HA3.out, below_drewN HB3.out m, HN.out⟩
        | true =>
          have h4 : po.size ≤ 4 := by simp at hb2; omega
          have h400 : (wh ++ fr).size ≤ 400 := by rw [ByteArray.size_append]; simp at hb1; omega
          have hwf : wh.size ≤ 400 ∧ fr.size ≤ 400 := by simp at hb1; omega
          have HSt := Lib.hid (short_p (w.heap.size + 1) R n wh fr le po w3 HRd.out (by omega) (by omega) _ _ hb1 hb2)
          have HP := Lib.hid (HSh.out h4)
          obtain ⟨x, hx⟩ : ∃ x : Int, x = (if le = true then -(dv po.data.toList : Int) else (dv po.data.toList : Int)) - fr.size := ⟨_, rfl⟩
          have HE : Hid (∀ W, RdAt W (w.heap.size + 1) R n wh fr le po → Calls Tryz.prog 27 #[.pointer (some ⟨w.heap.size + 1, 0, none⟩)] W fun o w' => o = .returned (.int .i64 x) ∧ Below W.heap.size W w') :=
            Lib.hid (fun W hr => by rw [hx]; exact exponent_p (w.heap.size + 1) R n wh fr le po W hr HDg.out h4 (by omega))
          obtain ⟨T, hT⟩ : ∃ T, T = wh ++ fr := ⟨_, rfl⟩
          have HG : Hid (∀ W, RdAt W (w.heap.size + 1) R n wh fr le po → Calls Tryz.prog 26 #[.pointer (some ⟨w.heap.size + 1, 0, none⟩)] W fun o w' => o = .returned (.string T) ∧ Below W.heap.size W w') :=
            Lib.hid (fun W hr => (digits_p (w.heap.size + 1) R n wh fr le po W hr (by omega) (by omega)).mono fun o w' hh => by
              obtain ⟨h1, m, h2⟩ := hh
              exact ⟨by rw [h1, hT], by rw [h2]; exact below_drewN (Below.refl _ _) m⟩)
          rw [← hx, ← hT] at HP
          rw [← hT] at h400
          obtain ⟨Q, hQ⟩ : ∃ Q, Q = makeR n T.data.toList x := ⟨_, rfl⟩
          have HM : Hid (∀ W, Calls Tryz.prog 20 #[.bool n, .string T, .int .i64 x] W (DecP Q W)) := Lib.hid (fun W => by rw [hQ]; exact pMake_calls n T x W h400)
          rw [← hQ] at HP
          clear hb1 hb2 hx hT hQ h4 h400 hwf hwl hfl HLg HSh HDg
          go_wp2_with (go_at_call 25; refine HSt.out.mono ?_; rintro o w4 ⟨rfl, m, rfl⟩)
          have HR5 := Lib.hid (show RdAt (w3.drewN m).drew (w.heap.size + 1) R n wh fr le po from HRd.out)
          have HA5 := Lib.hid (show DecAt (w3.drewN m).drew w.heap.size false ⟨#[]⟩ 0 from HA3.out)
          have HD5 := Lib.hid (show DecAt (w3.drewN m).drew (w.heap.size + 1 + 1) false ⟨#[]⟩ 0 from HD3.out)
          have HB5 := Lib.hid (below_drewN HB3.out m).drew
          obtain ⟨W5, hW5⟩ : ∃ W5, W5 = w3.drewN m := ⟨_, rfl⟩
          rw [← hW5] at HR5 HA5 HD5 HB5 ⊢
          clear hW5 HSt HRd HA3 HD3 HB3 HR2 HA2 HD2 HB2 HA0 HB0
          go_region_held3 (fun w' => w'.cell? ⟨w.heap.size + 1, 1, none⟩ = some (.bool n))
            (first
              | exact HR5.out.c1
              | exact (HR5.out.below hbd).c1
              | exact ((HR5.out.below hbd).below hbe).c1
              | exact (((HR5.out.below hbd).below hbe).below hbm).c1
              | exact (rd_setD (((HR5.out.below hbd).below hbe).below hbm) (by omega)).c1)
            (first
              | (go_at_call 26; refine (HG.out _ HR5.out).mono ?_; rintro o wd ⟨rfl, hbd⟩)
              | (go_at_call 27; refine (HE.out _ (HR5.out.below hbd)).mono ?_; rintro o we ⟨rfl, hbe⟩)
              | (go_at_call 20; refine (HM.out _).mono ?_; rintro o wm ⟨rfl, hbm⟩; have d0 := (((HD5.out.below hbd).below hbe).below hbm).c0; have d1 := (((HD5.out.below hbd).below hbe).below hbm).c1; have d2 := (((HD5.out.below hbd).below hbe).below hbm).c2; have e0 := (((HD5.out.below hbd).below hbe).below hbm).f 0; have e1 := (((HD5.out.below hbd).below hbe).below hbm).f 1; have e2 := (((HD5.out.below hbd).below hbe).below hbm).f 2))
          have HD6 := Lib.hid ((((HD5.out.below hbd).below hbe).below hbm).set (n' := dN Q) (s' := dS Q) (e' := dX Q))
          have HA6 := Lib.hid ((((HA5.out.below hbd).below hbe).below hbm).off (C := w.heap.size + 1 + 1) (n' := dN Q) (s' := dS Q) (e' := dX Q) (by omega))
          have HR6 := Lib.hid (rd_setD (D := w.heap.size + 1 + 1) (n' := dN Q) (s' := dS Q) (e' := dX Q) (((HR5.out.below hbd).below hbe).below hbm) (by omega))
          have HB6 := Lib.hid (below_setD (below_next (below_next (below_next HB5.out hbd) hbe) hbm) (B := w.heap.size + 1 + 1) (by omega) (dN Q) (dS Q) (dX Q))
          obtain ⟨W6, hW6⟩ : ∃ W6, W6 = setD wm (w.heap.size + 1 + 1) (dN Q) (dS Q) (dX Q) := ⟨_, rfl⟩
          rw [← hW6] at HD6 HA6 HR6 HB6
          rw [show ((wm.setCell ⟨w.heap.size + 1 + 1, 0, none⟩ (.bool (dN Q))).setCell ⟨w.heap.size + 1 + 1, 1, none⟩ (.string (dS Q))).setCell ⟨w.heap.size + 1 + 1, 2, none⟩ (.int .i64 (dX Q)) = W6 from hW6.symm]
          clear hW6 d0 d1 d2 e0 e1 e2 hbd hbe hbm HR5 HA5 HD5 HB5
          rcases Q with _ | ⟨m1, a1, x1⟩
          · have HN : Hid (parseR s.data.toList = none) := Lib.hid (by rw [HP.out]; rfl)
            have hE : decE none = 40 := rfl
            go_wp2
            go_step3
            exact ⟨rfl, ⟨_, _, _, _, _, _, _, _, _, _, _, _, _, _, _, _, _, _, _, _, _, _, _, _, _, _, _, _, _, _, _, rfl⟩, HA6.out, HB6.out, HN.out⟩
          · have HN : Hid (parseR s.data.toList = some ((m1, a1, x1), R.data.toList)) := Lib.hid (by rw [HP.out]; rfl)
            have hE : decE (some (m1, a1, x1)) = 0 := rfl
            go_wp2
            obtain ⟨N1, hN1⟩ : ∃ N1, N1 = dN (some (m1, a1, x1)) := ⟨_, rfl⟩
            obtain ⟨S1, hS1⟩ : ∃ S1, S1 = dS (some (m1, a1, x1)) := ⟨_, rfl⟩
            obtain ⟨X1, hX1⟩ : ∃ X1, X1 = dX (some (m1, a1, x1)) := ⟨_, rfl⟩
            have HV := Lib.hid (show N1 = dN (some (m1, a1, x1)) ∧ S1 = dS (some (m1, a1, x1)) ∧ X1 = dX (some (m1, a1, x1)) from ⟨hN1, hS1, hX1⟩)
            rw [← hN1, ← hS1, ← hX1] at HD6 ⊢
            clear hN1 hS1 hX1 HM HE HG
            have HR7 := Lib.hid (show RdAt W6.drew (w.heap.size + 1) R n wh fr le po from HR6.out)
            have HD7 := Lib.hid (show DecAt W6.drew (w.heap.size + 1 + 1) N1 S1 X1 from HD6.out)
            have HA7 := Lib.hid (show DecAt W6.drew w.heap.size false ⟨#[]⟩ 0 from HA6.out)
            have c0 := HA6.out.c0
            have c1 := HA6.out.c1
            have c2 := HA6.out.c2
            have f0 := HA6.out.f 0
            have f1 := HA6.out.f 1
            have f2 := HA6.out.f 2
            have hz := HA6.out.lt
            go_region_held3 (fun w' => w'.cell? ⟨w.heap.size + 1, 0, none⟩ = some (.string R) ∧ w'.cell? ⟨w.heap.size + 1 + 1, 0, none⟩ = some (.bool N1) ∧ w'.cell? ⟨w.heap.size + 1 + 1, 1, none⟩ = some (.string S1) ∧ w'.cell? ⟨w.heap.size + 1 + 1, 2, none⟩ = some (.int .i64 X1))
              (first
                | exact ⟨HR7.out.c0, HD7.out.c0, HD7.out.c1, HD7.out.c2⟩
                | exact ⟨(rd_setD HR7.out (by omega)).c0, (HD7.out.off (by omega)).c0, (HD7.out.off (by omega)).c1, (HD7.out.off (by omega)).c2⟩)
              (fail)
            all_goals
              go_wp2
              rw [jump_ret]
              refine bodyPost_ret (v := .tuple #[.agg #[.bool N1, .string S1, .int .i64 X1], .string R, .int .i64 0]) (by simp [results, Tryz.results13, go_sem, c0, c1, c2]) rfl ?_
              refine ⟨?_, below_setD HB6.out.drew (Nat.le_refl _) _ _ _⟩
              rw [HN.out, HV.out.1, HV.out.2.1, HV.out.2.2]
              simp only [pD, pR, Option.map_some, decE]
end Go.Proofs.YtifccjchpciicaaGreatDoor
