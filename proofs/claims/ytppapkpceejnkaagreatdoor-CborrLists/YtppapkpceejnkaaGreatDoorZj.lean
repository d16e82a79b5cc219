/- The iterator through: its walk. A list that is read, in memory. -/
import Derived.Test.YtppapkpceejnkaaGreatDoorZi
import Derived.RangeFuncLeaves
import Derived.Test.YtppapkpceejnkaaGreatDoorTO
namespace Go.Proofs.YtppapkpceejnkaaGreatDoor
open Go.RowKit

attribute [local go_sem] Oper.semAt_some

section
variable {w0 : World} {b wn : Nat} {l0 : List UInt8} {W0 : World} {J : List Yt → World → Prop} {JX : Nat → Code → World → Prop} {R : Res Fo} {B : World → Prop} {b0 : Nat}
theorem IY.kc {xs : List Yt} {W : World} (h : IY w0 b wn l0 W0 J xs W) : Kc b W0 W := h.2.2.1
theorem StY.step {xs : List Yt} {V V' : World} (h : StY w0 b wn l0 W0 J B xs V) (hg : V.grownBy V' (some b)) (hr : Rd w0 b (lastY l0 xs) wn V') (hB : ∀ X Z, B X → KeepsFrom b0 X Z → B Z) (hb : b < b0) : StY w0 b wn l0 W0 J B xs V' := by
  obtain ⟨Vp, h1, h2, h3, h4⟩ := h
  exact ⟨Vp, h1, gr_trans h2 hg, hr, hB _ _ h4 (KeepsFrom.of_grownBy hg (fun j e => by cases e; exact hb))⟩
theorem StY.below {xs : List Yt} {V V' : World} (h : StY w0 b wn l0 W0 J B xs V) (hb : Below V.heap.size V V') (hB : ∀ X Z, B X → KeepsFrom b0 X Z → B Z) (hbb : b < b0) : StY w0 b wn l0 W0 J B xs V' := by
  obtain ⟨Vp, h1, h2, h3, h4⟩ := h
  exact StY.step ⟨Vp, h1, h2, h3, h4⟩ (gr_below hb) (h3.below hb) hB hbb
theorem StY.kc {xs : List Yt} {V : World} (h : StY w0 b wn l0 W0 J B xs V) : Kc b W0 V := by
  obtain ⟨Vp, h1, h2, _, _⟩ := h
  exact h1.kc.trans (Kc.gr h2)
theorem StY.rd {xs : List Yt} {V : World} (h : StY w0 b wn l0 W0 J B xs V) : Rd w0 b (lastY l0 xs) wn V := by
  obtain ⟨_, _, _, h3, _⟩ := h
  exact h3
set_option maxRecDepth 100000 in
set_option maxHeartbeats 4000000 in
theorem through_runs (n hB rB oB S c1 c2 : Nat) (it p : Bool) (j k a : Nat) (g : Rg) (hg : Eats g) (h1 : 1 ≤ n) (ha : a < 18446744073709551616) (hl0 : l0.length < 1000000) (hbb : b < b0)
    (hT : Th W0 b hB rB oB S c1 c2 it p (j : Int) (k : Int) (a : Int))
    (hC : ∀ l W, Kc b W0 W → Rd w0 b l wn W → l.length ≤ l0.length → Calls Tryz.prog (fvF it) (fvA it b c1 c2) W (AnsP w0 b wn W (g l)))
    (hR : R = lsL g (if k = 31 then none else some a) p false l0) (W1 : World) :
    RunsAt Fence.wide n Tryz.prog 188 #[.pointer (some ⟨hB, 0, none⟩), .pointer (some ⟨rB, 0, none⟩), .pointer (some ⟨oB, 0, none⟩)] encY b0 (IY w0 b wn l0 W0 J) (YY w0 b wn l0 W0 J g) (IX JX) (DoneY w0 b wn l0 W0 J R) (LeftY JX R) W1 := by
  intro l B Bx hB0 hBx hY hB1 hI
  obtain ⟨c, hc⟩ : ∃ c, c = if k = 31 then none else some a := ⟨_, rfl⟩
  rw [← hc] at hR
  have HT := Lib.hid hT
  have HC := Lib.hid hC
  have HR := Lib.hid hR
  have HG := Lib.hid hg
  have HB := Lib.hid hB0
  have HY := Lib.hid hY
  have HCc := Lib.hid hc
  have H0 : Hid (StY w0 b wn l0 W0 J B [] W1) := Lib.hid ⟨W1, hI, World.grownBy.refl _ _, hI.2.1, hB1⟩
  have HE : Hid (∀ V, Calls Tryz.prog 105 #[.agg #[.int .i64 (j : Int), .int .i64 (k : Int), .int .u64 (a : Int)]] V fun o w' => o = .returned (.bool (decide ((k : Int) = 31))) ∧ Below V.heap.size V w') := Lib.hid (fun V => isOpen_calls _ _ _ V)
  clear hT hC hR hg hB0 hY hB1 hI hc
  refine callsIn_of_wp Tryz.func188 rfl trivial ?_ rfl
  simp only [Tryz.ntmps188, List.size_toArray, List.length_cons, List.length_nil, Nat.reduceAdd, Nat.reduceSub, Array.replicate_succ, Array.replicate_zero, List.push_toArray, List.append_toArray, List.nil_append, List.cons_append]
  gi_wp2
  gi_loopw [5] (fun i V => ∃ (q : Nat) (xs : List Yt), i = .int .u64 (q : Int) ∧ q + (lastY l0 xs).length ≤ l0.length ∧ StY w0 b wn l0 W0 J B xs V ∧ R = addR (foY xs) (lsL g (rem c q) p false (lastY l0 xs)) ∧ (k ≠ 31 → q ≤ a)) (fun _ V => lenAt b V)
  case atStart => exact ⟨0, [], rfl, Nat.le_of_eq (Nat.zero_add _), H0.out, by rw [HR.out]; cases c <;> exact (addR_nil _).symm, fun _ => Nat.zero_le _⟩
  case round =>
    obtain ⟨q, xs, rfl, hq, hst, hR, hqa⟩ := hrel
    have HS := Lib.hid hst
    have HRq := Lib.hid hR
    have HTw := Lib.hid (HT.out.kept hst.kc)
    have hlw := hst.rd.lt
    clear hst hR
    obtain ⟨e0, e1, e2⟩ := bx3 HTw.out.h
    have hz := HTw.out.h.lt
    have hz2 := HTw.out.r.lt
    have hz3 := HTw.out.o.lt
    have er := HTw.out.r.c 0 rfl
    have hcase : (k = 31) ∨ (k ≠ 31 ∧ q < a) ∨ (k ≠ 31 ∧ q = a) := by
      by_cases h : k = 31
      · exact .inl h
      · have := hqa h
        exact .inr (by omega)
    rcases hcase with hk | ⟨hk, hlt⟩ | ⟨hk, hlt⟩
    case inr.inr =>
      have hop : decide ((k : Int) = 31) = false := by simp; omega
      rw [hop] at HE
      have hcm : decide ((q : Int) < (a : Int)) = false := by simp; omega
      have HD : Hid (R = .ok (foY xs, lastY l0 xs)) := Lib.hid (by
        rw [HRq.out, HCc.out, if_neg hk, lsL_def HG.out, if_pos (show rem (some a) q = some 0 by show some (a - q) = some 0; rw [hlt, Nat.sub_self]), addR, fo_app_nil])
      gi_wp2_with fail
      refine ⟨trivial, (callsIn_wide (n := _)).2 ?_⟩
      refine (HE.out _).mono ?_
      rintro o w1 ⟨rfl, hb1⟩
      have HS1 := Lib.hid (HS.out.below hb1 HB.out hbb)
      have HT1 := Lib.hid (HT.out.kept HS1.out.kc)
      clear hb1 e0 e1 e2 er
      obtain ⟨e0, e1, e2⟩ := bx3 HT1.out.h
      gi_wp2_with fail
      go_end0
      obtain ⟨Vp, i1, i2, i3, i4⟩ := HS1.out
      exact ⟨⟨_, rfl⟩, .inl ⟨i4, xs, Vp, _, i1, i2, i3, HD.out⟩⟩
    case' inl =>
      have hop : decide ((k : Int) = 31) = true := by simp; omega
      have HK := Lib.hid hk
      clear hk
      rw [hop] at HE
      gi_wp2_with fail
      refine ⟨trivial, (callsIn_wide (n := _)).2 ?_⟩
      refine (HE.out _).mono ?_
      rintro o w1 ⟨rfl, hb1⟩
      have HS1 := Lib.hid (HS.out.below hb1 HB.out hbb)
      have HT1 := Lib.hid (HT.out.kept HS1.out.kc)
      clear hb1 e0 e1 e2 er
      obtain ⟨e0, e1, e2⟩ := bx3 HT1.out.h
      have er := HT1.out.r.c 0 rfl
      gi_wp2_with fail
      refine ⟨trivial, (callsIn_wide (n := _)).2 ?_⟩
      refine (HE.out _).mono ?_
      rintro o w2 ⟨rfl, hb2⟩
      have HS2 := Lib.hid (HS1.out.below hb2 HB.out hbb)
      have HT2 := Lib.hid (HT.out.kept HS2.out.kc)
      clear hb2 e0 e1 e2 er HS1 HT1
      obtain ⟨e0, e1, e2⟩ := bx3 HT2.out.h
      have er := HT2.out.r.c 0 rfl
      gi_wp2_with fail
      refine ⟨trivial, (callsIn_wide (n := _)).2 ?_⟩
      refine (ends_calls HS2.out.rd).mono ?_
      rintro o w3 ⟨hg3, rfl, hr3⟩
      clear e0 e1 e2 er
      by_cases hen : endsL (lastY l0 xs) = true
    case pos =>
      rw [hen, if_pos rfl] at hr3
      have HD : Hid (DoneY w0 b wn l0 W0 J R w3 ∧ B w3) := Lib.hid (by
        obtain ⟨Vp, i1, i2, i3, i4⟩ := HS2.out
        refine ⟨⟨xs, Vp, _, i1, gr_trans i2 hg3, hr3, ?_⟩, HB.out _ _ i4 (KeepsFrom.of_grownBy hg3 (fun j e => by cases e; exact hbb))⟩
        rw [HRq.out, HCc.out, if_pos HK.out]
        show addR _ (lsL g none p false _) = _
        rw [lsL_def HG.out, if_neg (by simp), if_pos ⟨rfl, hen, .inr rfl⟩, addR, fo_app_nil])
      rw [hen]
      clear hg3 hr3
      gi_wp2
      refine bodyPost_ret (results_none rfl _ _ _) rfl ?_
      exact ⟨⟨_, rfl⟩, .inl ⟨HD.out.2, HD.out.1⟩⟩
    case' neg =>
      have hen2 : endsL (lastY l0 xs) = false := by simpa using hen
      rw [if_neg hen] at hr3
      have HS3 := Lib.hid (HS2.out.step hg3 hr3 HB.out hbb)
      have HGo : Hid (GoL (rem c q) p false (lastY l0 xs)) := Lib.hid ⟨by rw [HCc.out, if_pos HK.out]; exact fun h => (by cases h), fun h => hen h.2.1⟩
      have HQ : Hid (k ≠ 31 → q + 1 ≤ a) := Lib.hid (fun h => absurd HK.out h)
      rw [hen2]
      clear hg3 hr3 HS2 HT2 hen
    case' inr.inl =>
      have hop : decide ((k : Int) = 31) = false := by simp; omega
      rw [hop] at HE
      have hcm : decide ((q : Int) < (a : Int)) = true := by simp; omega
      gi_wp2_with fail
      refine ⟨trivial, (callsIn_wide (n := _)).2 ?_⟩
      refine (HE.out _).mono ?_
      rintro o w1 ⟨rfl, hb1⟩
      have HS1 := Lib.hid (HS.out.below hb1 HB.out hbb)
      have HT1 := Lib.hid (HT.out.kept HS1.out.kc)
      clear hb1 e0 e1 e2 er
      obtain ⟨e0, e1, e2⟩ := bx3 HT1.out.h
      gi_wp2_with fail
      refine ⟨trivial, (callsIn_wide (n := _)).2 ?_⟩
      refine (HE.out _).mono ?_
      rintro o w3 ⟨rfl, hb2⟩
      have HS3 := Lib.hid (HS1.out.below hb2 HB.out hbb)
      have HGo : Hid (GoL (rem c q) p false (lastY l0 xs)) := Lib.hid ⟨by rw [HCc.out, if_neg hk]; exact fun h => (by have h2 : a - q = 0 := Option.some.inj h; omega), fun h => (by have h2 := h.1; rw [HCc.out, if_neg hk] at h2; cases h2)⟩
      have HQ : Hid (k ≠ 31 → q + 1 ≤ a) := Lib.hid (fun _ => hlt)
      clear hb2 e0 e1 e2 HS1 HT1
      gi_wp2_with fail
      refine ⟨trivial, ?_⟩
    all_goals
      have HT3 := Lib.hid (HT.out.kept HS3.out.kc)
      have eo := HT3.out.o.c 0 rfl
      have hzo := HT3.out.o.lt
      gi_wp2_with fail
      gi_loopw [30] (fun i V => ∃ (d : Nat) (ys : List Yt), i = .int .i64 (d : Int) ∧ d ≤ rdN p ∧ StY w0 b wn l0 W0 J B ys V ∧ (lastY l0 ys).length + d ≤ (lastY l0 xs).length ∧ R = addR (foY ys) (lsL g (if d = rdN p then rem c (q + 1) else rem c q) p (p && d == 1) (lastY l0 ys)) ∧ (d < rdN p → GoL (rem c q) p (p && d == 1) (lastY l0 ys))) (fun i _ => rdN p - (intOf i).toNat)
      case atStart => exact ⟨0, xs, rfl, Nat.zero_le _, HS3.out, Nat.le_refl _, by rw [if_neg (by cases p <;> decide), show (p && (0 == 1)) = false by cases p <;> rfl]; exact HRq.out, fun _ => by rw [show (p && (0 == 1)) = false by cases p <;> rfl]; exact HGo.out⟩
      case round =>
        obtain ⟨d, ys, rfl, hd, hst, hlen, hR, hgo⟩ := hrel
        have HS4 := Lib.hid hst
        have HR4 := Lib.hid hR
        have HL4 := Lib.hid hlen
        have HT4 := Lib.hid (HT.out.kept hst.kc)
        clear hst hR hlen eo hzo HS3 HT3
        have hrd : rdN p ≤ 2 := by cases p <;> decide
        by_cases hdm : d < rdN p
        · have HG4 := Lib.hid (hgo hdm)
          have es : wr.cell? ⟨S, d, none⟩ = some (fvV it b c1 c2) := HT4.out.s.c d (by rw [Array.getElem?_replicate, if_pos hdm])
          have hzs := HT4.out.s.lt
          clear hgo
          have hdi : (d : Int) < (rdN p : Int) := by omega
          have hle : (lastY l0 ys).length ≤ l0.length := by have := HL4.out; omega
          cases it
          all_goals
            simp only [fvV, Bool.false_eq_true, if_false, if_true] at es
            simp only [fvF, fvA, Bool.false_eq_true, if_false, if_true] at HC
            gi_wp2_with fail
            refine ⟨trivial, (callsIn_wide (n := _)).2 ?_⟩
            refine (HC.out _ _ HS4.out.kc HS4.out.rd hle).mono ?_
            rintro o V2 ⟨hg2, hm⟩
            cases hgl : g (lastY l0 ys) with
            | error e =>
              rw [hgl] at hm
              obtain ⟨rfl, r, hr⟩ := hm
              have HX := Lib.hid (Nx.new V2 zH (.slice none 0 0))
              have hy0 : YieldAt Fence.wide (n - 1) Tryz.prog l (encY (.er e)) (V2.alloc (.cells (zH.cells (.slice none 0 0)) 28)) fun e' W' => (e' = .returned (.bool true) ∧ B W' ∧ IY w0 b wn l0 W0 J (ys ++ [.er e]) W') ∨ (e' = .returned (.bool false) ∧ ∃ c, Bx c W' ∧ IX JX (.er e) c W') := by
                obtain ⟨Vp, i1, i2, i3, i4⟩ := HS4.out
                exact HY.out ys (.er e) _ ⟨Vp, i1, gr_trans (gr_trans i2 hg2) (gr_alloc _ _ _), r, hr.alloc _⟩ (HB.out _ _ i4 (KeepsFrom.of_grownBy (gr_trans hg2 (gr_alloc _ _ _)) (fun j e => by cases e; exact hbb)))
              have HRe : Hid (R = .error e) := Lib.hid (by rw [HR4.out, if_neg (by omega), ls_err HG.out HG4.out hgl, addR])
              obtain ⟨fn, tmps, assign, body, hy, hRn⟩ := hy0
              simp only [encY, zH, Hd.cells, Int.cast_ofNat_Int] at hy hRn HX ⊢
              clear hr hg2 hgl
              gi_wp2_with fail
              refine hRn.mono ?_
              rintro e' W3 (⟨rfl, hB3, hI3⟩ | ⟨rfl, cc, hB3, hI3⟩)
              · exact absurd (hI3.2.2.2.1 (.er e) (List.mem_append_right _ (List.mem_singleton.2 rfl))) id
              · have HI3 := Lib.hid (And.intro hB3 hI3)
                clear hB3 hI3
                gi_wp2
                refine bodyPost_ret (results_none rfl _ _ _) rfl ?_
                exact ⟨⟨_, rfl⟩, .inr ⟨cc, HI3.out.1, e, HRe.out, HI3.out.2⟩⟩
            | ok y =>
              obtain ⟨⟨h', k'⟩, r⟩ := y
              rw [hgl] at hm
              obtain ⟨v', rfl, hr, hk', hu'⟩ := hm
              have hlr := HG.out _ _ _ hgl
              obtain ⟨A', c', rfl, _, _, _⟩ := hk'.form
              have HX := Lib.hid (Nx.new V2 h' (.slice A' k'.len c'))
              have hy0 : YieldAt Fence.wide (n - 1) Tryz.prog l (encY (.nd h' (.slice A' k'.len c') k' r)) (V2.alloc (.cells (h'.cells (.slice A' k'.len c')) 28)) fun e' W' => (e' = .returned (.bool true) ∧ B W' ∧ IY w0 b wn l0 W0 J (ys ++ [.nd h' (.slice A' k'.len c') k' r]) W') ∨ (e' = .returned (.bool false) ∧ ∃ c, Bx c W' ∧ IX JX (.nd h' (.slice A' k'.len c') k' r) c W') := by
                obtain ⟨Vp, i1, i2, i3, i4⟩ := HS4.out
                refine HY.out ys (.nd h' (.slice A' k'.len c') k' r) _ ⟨Vp, i1, gr_trans (gr_trans i2 hg2) (gr_alloc _ _ _), hr.alloc _, ?_, hu', hlr, hgl⟩ (HB.out _ _ i4 (KeepsFrom.of_grownBy (gr_trans hg2 (gr_alloc _ _ _)) (fun j e => by cases e; exact hbb)))
                exact (hk'.mono fun B hB _ => Nat.le_trans i2.size hB).below (below_a (Below.refl _ _) _)
              have HRe : Hid (R = addR (foY (ys ++ [.nd h' (.slice A' k'.len c') k' r])) (lsL g (less (rem c q) p (p && d == 1)) p (!(p && d == 1)) r)) := Lib.hid (by rw [HR4.out, if_neg (by omega), ls_ok HG.out HG4.out hgl, foY_snoc])
              obtain ⟨fn, tmps, assign, body, hy, hRn⟩ := hy0
              simp only [encY, Hd.cells] at hy hRn HX ⊢
              clear hr hg2 hgl hk'
              gi_wp2_with fail
              refine hRn.mono ?_
              rintro e' W3 (⟨rfl, hB3, hI3⟩ | ⟨rfl, cc, hB3, hI3⟩)
              · have HI3 := Lib.hid (And.intro hB3 hI3)
                clear hB3 hI3
                have HLs : Hid (lastY l0 (ys ++ [.nd h' (.slice A' k'.len c') k' r]) = r) := Lib.hid (lastY_snoc _ _ _ _ _ _)
                gi_wp2
                refine ⟨⟨d + 1, ys ++ [.nd h' (.slice A' k'.len c') k' r], by go_num, hdm, ⟨W3, HI3.out.2, World.grownBy.refl _ _, HI3.out.2.2.1, HI3.out.1⟩, ?_, ?_, fun hd2 => step_g HG4.out hd2⟩, ?_⟩
                · rw [HLs.out]; have := HL4.out; omega
                · rw [HLs.out, HRe.out, step_r HG.out p d q c r hdm]; rfl
                · simp [intOf]; omega
              · exact hI3.elim
        · have hdr : d = rdN p := by omega
          have hd1 : 1 ≤ d := by rw [hdr]; cases p <;> decide
          have hdp : (p && d == 1) = false := by rw [hdr]; cases p <;> rfl
          have HRe : Hid (R = addR (foY ys) (lsL g (rem c (q + 1)) p false (lastY l0 ys))) := Lib.hid (by rw [HR4.out, if_pos hdr, hdp])
          have hql : q + 1 < 18446744073709551616 := by omega
          have hdi : ¬ (d : Int) < (rdN p : Int) := by omega
          clear hgo hdp
          gi_wp2_with fail
          have hL4 := HL4.out
          refine ⟨⟨q + 1, ys, rfl, by omega, HS4.out, HRe.out, HQ.out⟩, ?_⟩
          rw [lenAt_rd HS4.out.rd, lenAt_rd HS.out.rd]
          omega
end
end Go.Proofs.YtppapkpceejnkaaGreatDoor
namespace Go.Proofs.YtppapkpceejnkaaGreatDoor
open Go.RowKit

theorem Lies.own {P : Nat → Prop} {W W' : World} (hs : W.heap.size ≤ W'.heap.size) (hc : ∀ a v, W.cell? a = some v → W'.cell? a = some v) : ∀ {f : Fo} {B o : Nat}, Lies P W f B o → Lies P W' f B o
  | .nil, _, _, _ => trivial
  | .cons _ _ _, _, _, ⟨⟨v, h, hk⟩, hu, hr⟩ => ⟨⟨v, fun i u hi => hc _ _ (h i u hi), hk.imp id fun ⟨b, o', c, h1, h2, h5, h3, h6, h4⟩ => ⟨b, o', c, h1, h2, h5, Nat.lt_of_lt_of_le h3 hs, h6, Lies.own hs hc h4⟩⟩, hu, Lies.own hs hc hr⟩
theorem Kd.own {P : Nat → Prop} {W W' : World} (hs : W.heap.size ≤ W'.heap.size) (hc : ∀ a v, W.cell? a = some v → W'.cell? a = some v) {v : Value} {k : Fo} (h : Kd P W v k) : Kd P W' v k :=
  h.imp id fun ⟨b, o', c, h1, h2, h5, h3, h6, h4⟩ => ⟨b, o', c, h1, h2, h5, Nat.lt_of_lt_of_le h3 hs, h6, Lies.own hs hc h4⟩
theorem Rw.own {P : Nat → Prop} {W W' : World} (hs : W.heap.size ≤ W'.heap.size) (hc : ∀ a v, W.cell? a = some v → W'.cell? a = some v) : ∀ {f : Fo} {xs : List Value}, Rw P W f xs → Rw P W' f xs
  | .nil, _, h => h
  | .cons _ _ _, _, ⟨v, zs, h1, h2, h3, h4⟩ => ⟨v, zs, h1, h2.own hs hc, h3, Rw.own hs hc h4⟩
theorem app_len1 (h : Hd) (k : Fo) : ∀ (f : Fo), (f.app (.cons h k .nil)).len = f.len + 1
  | .nil => rfl
  | .cons _ _ r => by
    show (r.app (.cons h k .nil)).len + 1 = r.len + 1 + 1
    rw [app_len1 h k r]
def kiH (kind : Int) : Hd := ⟨kind, false, false, ⟨#[]⟩, 0, 0, 0, ⟨#[]⟩⟩
abbrev PJ (r0 : Nat) (x : Value) : Nat → Prop := fun B => r0 + 4 ≤ B ∧ x.ownBlock ≠ some B
/-- The list that is read, so far. -/
structure LJ (Wf : World) (b r0 : Nat) (kind : Int) (f : Fo) (x : Value) (ys : List Value) (V : World) : Prop where
  gr : Wf.grownBy V (some b)
  ow : V.ownsRow (r0 + 4) 28 9 x f.len ys
  rw : Rw (PJ r0 x) V f ys
  nn : Nx V (r0 + 2) (kiH kind) x
  nw : Bx V (r0 + 3) #[.nilIface] 57
  nr : Nx V (r0 + 1) zH (.slice none 0 0)
section
variable {Wf V V' : World} {b r0 : Nat} {kind : Int} {f : Fo} {x : Value} {ys : List Value}
theorem LJ.form (h : LJ Wf b r0 kind f x ys V) : ∃ A c, x = .slice A f.len c := by
  obtain ⟨_, ⟨h, h'⟩ | ⟨g, cap, cur, h, _⟩⟩ := h.ow
  · exact ⟨none, 0, by rw [h, h']⟩
  · exact ⟨_, _, h⟩
theorem LJ.size (h : LJ Wf b r0 kind f x ys V) : r0 + 3 < V.heap.size := h.nw.lt
theorem LJ.len (h : LJ Wf b r0 kind f x ys V) : f.len < 9223372036854775808 := by
  obtain ⟨_, ⟨_, h'⟩ | ⟨g, cap, cur, _, _, _, h5, h6, _⟩⟩ := h.ow
  · rw [h']; decide
  · exact Nat.lt_of_le_of_lt (Nat.le_trans h5 h6) (by unfold maxLen; decide)
theorem LJ.notb (h : LJ Wf b r0 kind f x ys V) (hb : b < r0) : x.ownBlock ≠ some b := fun e => by have := (owns_block h.ow e).1; omega
theorem LJ.step (h : LJ Wf b r0 kind f x ys V) (hb : b < r0) (hg : V.grownBy V' (some b)) : LJ Wf b r0 kind f x ys V' :=
  ⟨gr_trans h.gr hg, h.ow.kept hg (.inr (h.notb hb)), Rw.kept hg.size (fun B h1 h2 => hg.block B h2 (fun e => by cases e; have := h1.1; omega)) h.rw, gr_bx h.nn hg (fun e => by cases e; omega), gr_bx h.nw hg (fun e => by cases e; omega), gr_bx h.nr hg (fun e => by cases e; omega)⟩
theorem LJ.kept (h : LJ Wf b r0 kind f x ys V) {row : Option Nat} (hg : V.grownBy V' row) (hr : ∀ r, row = some r → Wf.heap.size ≤ r ∧ ∃ o : Obj, V.heap[r]? = some o ∧ o.isCells = false) : LJ Wf b r0 kind f x ys V' :=
  ⟨⟨hg.os.trans h.gr.os, hg.tape.trans h.gr.tape, hg.output.trans h.gr.output, Nat.le_trans h.gr.size hg.size, fun k hk hn => (hg.block k (Nat.lt_of_lt_of_le hk h.gr.size) (fun e => by have := (hr k e.symm).1; omega)).trans (h.gr.block k hk hn)⟩,
   owns_kept h.ow hg (fun r e => (hr r e).2), Rw.own hg.size (fun _ _ hv => cell_kept hv hg (fun r e => (hr r e).2)) h.rw, bx_kept h.nn hg (fun r e => (hr r e).2), bx_kept h.nw hg (fun r e => (hr r e).2), bx_kept h.nr hg (fun r e => (hr r e).2)⟩
theorem kd_kept {P : Nat → Prop} {v : Value} {k : Fo} (h : Kd P V v k) {row : Option Nat} (hg : V.grownBy V' row) (hr : ∀ r, row = some r → ∃ o : Obj, V.heap[r]? = some o ∧ o.isCells = false) : Kd P V' v k :=
  h.own hg.size (fun _ _ hv => cell_kept hv hg hr)
/-- A node more. -/
theorem lj_end {w0 W0 : World} {wn : Nat} {l : List UInt8} {h : Hd} {v x3 : Value} {k : Fo} {g : Nat} (hb : b < r0) (hJ : LJ Wf b r0 kind f x ys V) (hk : Kd (PJ r0 x) V v k) (hu : h.u < 18446744073709551616) (hr : Rd w0 b l wn V) (hkc : Kc b W0 V) (hwf : Wf.heap.size ≤ r0)
    (f1 : ∀ i, i < V.heap.size → i ≠ r0 + 2 → x.ownBlock ≠ some i → V'.heap[i]? = V.heap[i]?) (f2 : V.heap.size ≤ V'.heap.size) (f3 : Nx V' (r0 + 2) (kiH kind) x3) (fg : x3.ownBlock = some g) (fg2 : x.ownBlock = some g ∨ V.heap.size ≤ g)
    (f4 : V'.ownsRow (r0 + 4) 28 9 x3 (f.len + 1) (ys ++ (h.cells v).toList)) (f5 : Below r0 V V') {B0 : Nat} :
    KeepsFrom B0 V V' ∧ LJ Wf b r0 kind (f.app (.cons h k .nil)) x3 (ys ++ (h.cells v).toList) V' ∧ Rd w0 b l wn V' ∧ Kc b W0 V' := by
  have ft : ∀ (i : Nat) (cs : Array Value) (T : TypeId) (fr : Nat × Nat), V.heap[i]? = some (.cells cs T fr) → T ≠ 28 → V'.heap[i]? = some (.cells cs T fr) := fun i cs T fr hi hT => by
    refine (f1 i (Array.getElem?_eq_some_iff.1 hi).1 (fun e => ?_) (fun e => ?_)).trans hi
    · subst e
      have h5 := hJ.nn
      rw [Nx, Bx, hi] at h5
      cases h5
      exact hT rfl
    · obtain ⟨_, ⟨h5, _⟩ | ⟨g', cap, cur, h5, _, h6, _⟩⟩ := hJ.ow
      · rw [h5] at e; cases e
      · rw [h5] at e
        cases e
        rw [hi] at h6
        cases h6
        exact hT rfl
  have fb : V'.heap[b]? = V.heap[b]? := f1 b hr.lt (by omega) (hJ.notb hb)
  have hPx : ∀ i, PJ r0 x i → i < V.heap.size → PJ r0 x3 i := fun i hi hl => ⟨hi.1, fun e => by
    rw [fg] at e
    cases e
    rcases fg2 with h5 | h5
    · exact hi.2 h5
    · omega⟩
  have hP : ∀ i, PJ r0 x i → i < V.heap.size → V'.heap[i]? = V.heap[i]? := fun i hi hl => f1 i hl (by have := hi.1; omega) hi.2
  refine ⟨⟨f2, fun i o _ hi ho => (f1 i (Array.getElem?_eq_some_iff.1 hi).1 (fun e => ?_) (fun e => ?_)).trans hi⟩, ⟨⟨f5.os.trans hJ.gr.os, f5.tape.trans hJ.gr.tape, f5.output.trans hJ.gr.output, Nat.le_trans hJ.gr.size f2, fun i hi hn => (f5.block i (by omega)).trans (hJ.gr.block i hi hn)⟩, ?_, ?_, f3, ft _ _ _ _ hJ.nw (by decide), ?_⟩, ⟨hr.hb, hr.hw.trans (f5.mono (by have := hr.hb; omega)), fb.trans hr.bx⟩, hkc.trans ⟨f2, fun i cs T fr hi hT _ => ft i cs T fr hi hT.1⟩⟩
  · subst e
    rw [show V.heap[r0 + 2]? = _ from hJ.nn] at hi
    cases hi
    cases ho
  · obtain ⟨_, ⟨h5, _⟩ | ⟨g', cap, cur, h5, _, h6, _⟩⟩ := hJ.ow
    · rw [h5] at e; cases e
    · rw [h5] at e
      cases e
      rw [show V.heap[g']? = _ from h6] at hi
      cases hi
      cases ho
  · rw [app_len1]
    exact f4
  · refine rw_app ?_ ⟨v, [], by simp, ?_, hu, rfl⟩
    · exact ((hJ.rw.mono (Q := fun i => PJ r0 x i ∧ i < V.heap.size) fun i h1 h2 => ⟨h1, h2⟩) |> Rw.kept f2 (fun i h1 h2 => hP i h1.1 h2)).mono fun i h1 _ => hPx i h1.1 h1.2
    · exact ((hk.mono (Q := fun i => PJ r0 x i ∧ i < V.heap.size) fun i h1 h2 => ⟨h1, h2⟩).kept f2 (fun i h1 h2 => hP i h1.1 h2)).mono fun i h1 _ => hPx i h1.1 h1.2
  · exact (f1 _ (by have := hJ.size; omega) (by omega) (fun e => by have := (owns_block hJ.ow e).1; omega)).trans hJ.nr
end
end Go.Proofs.YtppapkpceejnkaaGreatDoor
