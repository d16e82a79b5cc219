/- The walk of divide. -/
import Derived.Test.YtgcalhnfoakggaaGreatDoorRead
import Derived.Test.YtgcalhnfoakggaaGreatDoorDivM
import Derived.Deep.QuietTactic
import Derived.BigQuiet
namespace Go.Proofs.YtgcalhnfoakggaaGreatDoor
open Go.RowKit Go.Shelf

attribute [local go_sem] Oper.semAt_some

theorem trim_val {L : List Nat} {k : Nat} (hk : k ≤ L.length) (h : trimL L = L.take k) : (trimL L).length = k := by rw [h, List.length_take, Nat.min_eq_left hk]

set_option maxHeartbeats 400000 in
/-- trim of a whole row: nothing turns, and the slice is known. -/
theorem trim_row (L : List Nat) (w : World) (b n : Nat) (hn : n = L.length) (hl : L.length ≤ 1000) (hrow : Row w b L) :
    Calls Tryz.prog 81 #[.slice (some ⟨b, 0, none⟩) n n] w fun e w' => e = .returned (.slice (some ⟨b, 0, none⟩) (trimL L).length (trimL L).length) ∧ w' = w := by
  subst hn
  have HR := Lib.hid hrow
  clear hrow
  go_enter Tryz.func81, Tryz.ntmps81
  go_wp2
  go_loop [3] (fun n => ∃ k : Nat, k ≤ L.length ∧ n = .int .i64 k ∧ trimL (L.take k) = trimL L) (fun n => (intOf n).toNat)
  case atStart => exact ⟨L.length, Nat.le_refl _, rfl, by simp⟩
  case round =>
    obtain ⟨k, hk, rfl, ht⟩ := hrel
    have HT := Lib.hid ht
    clear ht
    rcases k with _ | k
    · go_wp2
      go_ret
      exact ⟨by rw [trim_val (k := 0) hk (by rw [← HT.out]; rfl)]; rfl, rfl⟩
    · have hc1 := HR.out.cell (j := k) (by omega)
      by_cases hz : lat L k = 0
      · have HZ := Lib.hid hz
        rw [hz] at hc1
        clear hz
        go_wp2
        go_round
        case rel => exact ⟨k, by omega, by go_num, by rw [← HT.out, trimL_take_zero L k (by omega) HZ.out]⟩
        case measure => simp [intOf]
      · have HZ := Lib.hid hz
        have hz1 : ((lat L k : Nat) == (0 : Int)) = false := by simpa using hz
        clear hz
        go_wp2
        go_ret
        exact ⟨by rw [trim_val (k := k + 1) hk (by rw [← HT.out]; exact trimL_take_pos L k (by omega) HZ.out)]; rfl, rfl⟩

theorem trim_lm {L : List Nat} {w : World} {b : Nat} (hrow : Row w b L) : Lm w (.slice (some ⟨b, 0, none⟩) (trimL L).length (trimL L).length) (trimL L) := by
  obtain ⟨k, hk, h1, _, _⟩ := trimL_spec L
  refine .inr ⟨b, 0, _, rfl, Nat.le_refl _, hrow.lt, fun j hj => ?_⟩
  rw [h1, List.length_take, Nat.min_eq_left hk] at hj
  rw [h1, lat_take hj, Nat.zero_add]
  exact hrow.cell (by omega)

/-- What divide hands back: the quotient's limbs, the rest. -/
def DivPost (q r len : Nat) (w : World) (e : Ending) (w' : World) : Prop := ∃ R v, e = .returned (.tuple #[v, .int .u32 (r : Nat)]) ∧ Lm w' v R ∧ Bd R ∧ Nm R ∧ val R = q ∧ R.length ≤ len ∧ Below w.heap.size w w' ∧ ∃ b c, v = .slice (some ⟨b, 0, none⟩) R.length c ∧ w.heap.size ≤ b

set_option maxRecDepth 100000 in
set_option maxHeartbeats 4000000 in
theorem divide_calls (L : List Nat) (v : Value) (d : Nat) (w : World) (hl : L.length ≤ 1000) (hd0 : 0 < d) (hd1 : d < 4294967296) (hx : Lm w v L) (bd : Bd L) :
    Calls Tryz.prog 75 #[v, .int .u32 (d : Int)] w (DivPost (val L / d) (val L % d) L.length w) := by
  obtain ⟨a, cap, rfl⟩ := hx.shape
  have hmk := fun W => run_make_limbs W (L.length : Int) L.length rfl (by omega)
  have hmx : Tryz.prog.follows .mixedOrders = true := by kernel_rfl
  refine (callsIn_wide (n := 5)).1 ?_
  refine callsIn_of_wp_marks Tryz.func75 rfl trivial ?_ rfl
  simp only [Tryz.ntmps75, List.size_toArray, List.length_cons, List.length_nil, Nat.reduceAdd, Nat.reduceSub, Array.replicate_succ, Array.replicate_zero, List.push_toArray, List.append_toArray, List.nil_append, List.cons_append]
  have HX := Lib.hid hx
  have HBd := Lib.hid bd
  clear hx bd
  gi_wp2_with (refine ⟨trivial, ?_⟩; gi_at_call 82; refine (back_in _ _ _ _ _ _ rfl).mono ?_; rintro e w' ⟨rfl, rfl⟩)
  obtain ⟨W0, hW0⟩ : ∃ W0, W0 = ((((w.alloc (.cells #[.int .u32 (d : Int)] 68)).alloc (rowObj L.length)).alloc (.cells #[.slice (some ⟨w.heap.size + 1, 0, none⟩) L.length L.length] 96)).alloc (.cells #[.int .u64 0] 22)).alloc (.cells #[.slice a L.length cap] 96) := ⟨_, rfl⟩
  have bD : Boxed W0 w.heap.size 68 (.int .u32 (d : Int)) := by rw [hW0]; exact ((((Boxed.new w 68 _).alloc _).alloc _).alloc _).alloc _
  have hRow : Row W0 (w.heap.size + 1) (List.replicate L.length 0) := by
    have := World.alloc_heap_new (w.alloc (.cells #[.int .u32 (d : Int)] 68)) (rowObj L.length)
    rw [World.size_alloc] at this
    rw [hW0]
    exact (Below.heap_alloc _ _ _ (by simp)).trans ((Below.heap_alloc _ _ _ (by simp)).trans ((Below.heap_alloc _ _ _ (by simp)).trans this))
  have bQ : Boxed W0 (w.heap.size + 1 + 1) 96 (.slice (some ⟨w.heap.size + 1, 0, none⟩) L.length L.length) := by
    have := Boxed.new ((w.alloc (.cells #[.int .u32 (d : Int)] 68)).alloc (rowObj L.length)) 96 (.slice (some ⟨w.heap.size + 1, 0, none⟩) L.length L.length)
    rw [World.size_alloc, World.size_alloc] at this
    rw [hW0]; exact (this.alloc _).alloc _
  have bR : Boxed W0 (w.heap.size + 1 + 1 + 1) 22 (.int .u64 0) := by
    have := Boxed.new (((w.alloc (.cells #[.int .u32 (d : Int)] 68)).alloc (rowObj L.length)).alloc (.cells #[.slice (some ⟨w.heap.size + 1, 0, none⟩) L.length L.length] 96)) 22 (.int .u64 0)
    rw [World.size_alloc, World.size_alloc, World.size_alloc] at this
    rw [hW0]; exact this.alloc _
  have bX : Boxed W0 (w.heap.size + 1 + 1 + 1 + 1) 96 (.slice a L.length cap) := by
    have := Boxed.new ((((w.alloc (.cells #[.int .u32 (d : Int)] 68)).alloc (rowObj L.length)).alloc (.cells #[.slice (some ⟨w.heap.size + 1, 0, none⟩) L.length L.length] 96)).alloc (.cells #[.int .u64 0] 22)) 96 (.slice a L.length cap)
    rw [World.size_alloc, World.size_alloc, World.size_alloc, World.size_alloc] at this
    rw [hW0]; exact this
  have hB0 : Below w.heap.size w W0 := by rw [hW0]; exact (((((Below.refl _ w).alloc (Nat.le_refl _) _).alloc (by simp) _).alloc (by simp; omega) _).alloc (by simp; omega) _).alloc (by simp; omega) _
  have hs0 : W0.heap.size = w.heap.size + 5 := by rw [hW0]; simp
  rw [← hW0]
  have HS0 := Lib.hid hs0
  clear hW0 hs0 hmk
  refine wpIn_rangeFunc_ownG rfl (by omega) (gf := 96) (lb := #[.pointer (some ⟨w.heap.size + 1 + 1 + 1 + 1, 0, none⟩)]) rfl trivial (enters_of Tryz.func96 (by kernel_rfl) rfl)
    (back_stops (5 - 1) (by omega) (w.heap.size + 1 + 1 + 1 + 1) (fun k => k < w.heap.size ∨ k = w.heap.size + 1 + 1 + 1 + 1) (.slice a L.length cap) L hl _ (by rw [HS0.out]; omega) (.inr rfl) bX.cell (HX.out.below hB0)
      (fun b' off len cap e => by
        rcases HX.out with ⟨e2, _⟩ | ⟨b2, off2, cap2, e2, _, h2, _⟩
        · rw [e] at e2; cases e2
        · rw [e] at e2; cases e2; exact .inl h2)) Kpt.trans (Kpt.book (by rintro k (h | h) <;> rw [HS0.out] <;> omega)) (Below.refl _ _) (fun _ => rfl)
    (fun pre W => ((Row W (w.heap.size + 1) (foldV d L.length (pre.map (·.1))).1 ∧ Boxed W w.heap.size 68 (.int .u32 (d : Int))) ∧ (Boxed W (w.heap.size + 1 + 1) 96 (.slice (some ⟨w.heap.size + 1, 0, none⟩) L.length L.length) ∧ Boxed W (w.heap.size + 1 + 1 + 1) 22 (.int .u64 ((foldV d L.length (pre.map (·.1))).2 : Nat)) ∧ Boxed W (w.heap.size + 1 + 1 + 1 + 1) 96 (.slice a L.length cap))) ∧ Below w.heap.size w W)
    (fun _ _ _ => False)
    (OwnFrom.and (OwnFrom.and (OwnFrom.and (Own.from (row_own _ _) _) (Own.from (boxed_own _ _ _) _)) (OwnFrom.and (Own.from (boxed_own _ _ _) _) (OwnFrom.and (Own.from (boxed_own _ _ _) _) (Own.from (boxed_own _ _ _) _)))) (ownFrom_below (Nat.le_refl _) (by rw [HS0.out]; omega)))
    (fun _ _ _ _ _ hs _ _ => hs)
    ⟨⟨⟨hRow, bD⟩, bQ, bR, bX⟩, hB0⟩
    ?a1 ?assign ?body ?done ?stop
  case assign =>
    intro l x W K hK
    gi_wp2
    exact hK
  case body =>
    rintro l pre x W ⟨⟨⟨hrow, hbD⟩, hbQ, hbR, hbX⟩, hB⟩ _
    obtain ⟨S, hS⟩ : ∃ S, S = foldV d L.length (pre.map (·.1)) := ⟨_, rfl⟩
    have hinv : DvI d L.length S := by rw [hS]; exact foldV_inv hd0 _ (fun y hy => by obtain ⟨z, _, rfl⟩ := List.mem_map.1 hy; rw [z.2.2]; exact HBd.out _)
    rw [← hS] at hrow hbR
    have hi := x.2.1
    have hx2 : x.1.2 < 1000000000 := by rw [x.2.2]; exact HBd.out _
    have hr := hinv.lt
    have htl := total_lt hr hx2
    have hql := quot_lt hr hx2
    have hcD := hbD.cell
    have hcQ := hbQ.cell
    have hcR := hbR.cell
    have hfR := hbR.frozen
    have hcell := hrow.cell (j := x.1.1) (by rw [hinv.len]; exact hi)
    have hfz := hrow.frozen x.1.1
    have HRw := Lib.hid hrow
    have HbD := Lib.hid hbD
    have HbQ := Lib.hid hbQ
    have HbR := Lib.hid hbR
    have HbX := Lib.hid hbX
    have HB := Lib.hid hB
    have HS := Lib.hid hS
    have HInv := Lib.hid hinv
    clear hrow hbD hbQ hbR hbX hB hS hinv hRow bD bQ bR bX hB0
    gi_wp2
    have et : ((S.2 : Int) * 1000000000 + (x.1.2 : Int)) = ((S.2 * 1000000000 + x.1.2 : Nat) : Int) := by omega
    rw [et]
    clear et
    obtain ⟨t, hte⟩ : ∃ t, t = S.2 * 1000000000 + x.1.2 := ⟨_, rfl⟩
    rw [← hte] at htl hql ⊢
    have HTe := Lib.hid hte
    clear hte
    have ht64 : (t : Int) < 18446744073709551616 := by omega
    have hwd : IntKind.u64.wrap (d : Int) = (d : Int) := by rw [IntKind.wrap_u64]; omega
    have hdne : ((d : Int) == 0) = false := beq_eq_false_iff_ne.2 (by omega)
    have hdn : ¬ (d : Int) = 0 := by omega
    have hdz : ¬ d = 0 := by omega
    obtain ⟨q, hqe⟩ : ∃ q, q = t / d := ⟨_, rfl⟩
    rw [← hqe] at hql
    have hqt : (t : Int).tdiv (d : Int) = (q : Int) := by rw [hqe]; rfl
    have hqt2 : (t : Int) / (d : Int) = (q : Int) := by rw [hqe]; rfl
    have hqw2 : IntKind.u64.wrap (q : Int) = (q : Int) := by rw [IntKind.wrap_u64]; omega
    have hqw3 : IntKind.u32.wrap (q : Int) = (q : Int) := by rw [IntKind.wrap_u32]; omega
    have HQe := Lib.hid hqe
    clear hqe
    refine region_tail_round 7 (by kernel_rfl) (by kernel_rfl) (by kernel_rfl) ?_ ?_
    · rintro ⟨_, _, h⟩; exact h
    simp only [List.take_succ_cons, List.take_zero, List.drop_succ_cons, List.drop_zero]
    repeat still_step
    try refine wpStill_nil ?_
    go_wp2
    have hRn := Lib.hid (show Row (W.setCell ⟨w.heap.size + 1, x.1.1, none⟩ (.int .u32 (q : Int))).drew (w.heap.size + 1) (S.1.set x.1.1 q) from HRw.out.set x.1.1 q)
    have HbD1 := Lib.hid (boxed_off HbD.out (p := ⟨w.heap.size + 1, x.1.1, none⟩) (by simp only; omega) (.int .u32 (q : Int)))
    have HbQ1 := Lib.hid (boxed_off HbQ.out (p := ⟨w.heap.size + 1, x.1.1, none⟩) (by simp only; omega) (.int .u32 (q : Int)))
    have HbR1 := Lib.hid (boxed_off HbR.out (p := ⟨w.heap.size + 1, x.1.1, none⟩) (by simp only; omega) (.int .u32 (q : Int)))
    have HbX1 := Lib.hid (boxed_off HbX.out (p := ⟨w.heap.size + 1, x.1.1, none⟩) (by simp only; omega) (.int .u32 (q : Int)))
    have HB1 := Lib.hid ((Below.refl w.heap.size W).setCell (p := ⟨w.heap.size + 1, x.1.1, none⟩) (by simp) (.int .u32 (q : Int))).drew
    have HKo := Lib.hid ((KeepsOthers.setCell W ⟨w.heap.size + 1, x.1.1, none⟩ (.int .u32 (q : Int))).trans (KeepsOthers.drew _))
    obtain ⟨W1, hW1⟩ : ∃ W1, W1 = (W.setCell ⟨w.heap.size + 1, x.1.1, none⟩ (.int .u32 (q : Int))).drew := ⟨_, rfl⟩
    rw [← hW1] at hRn HbD1 HbQ1 HbR1 HbX1 HB1 HKo ⊢
    clear hW1 hcD hcQ hcR hfR hcell hfz hqt hqt2 hqw2 hqw3
    have hcD := HbD1.out.cell
    have hcR := HbR1.out.cell
    have hfR := HbR1.out.frozen
    obtain ⟨r, hre⟩ : ∃ r, r = t % d := ⟨_, rfl⟩
    have hrl : r < d := by rw [hre]; exact Nat.mod_lt _ hd0
    have hrt : (t : Int).tmod (d : Int) = (r : Int) := by rw [hre]; rfl
    have hrt2 : (t : Int) % (d : Int) = (r : Int) := by rw [hre]; rfl
    have hrw2 : IntKind.u64.wrap (r : Int) = (r : Int) := by rw [IntKind.wrap_u64]; omega
    have HRe := Lib.hid hre
    clear hre
    gi_wp2
    refine ⟨(HKo.out.trans (KeepsOthers.setCell _ _ _)).from _, ⟨?_, ?_⟩, ⟨⟨?_, HbD1.out.other (by omega) _⟩, HbQ1.out.other (by omega) _, ?_, HbX1.out.other (by omega) _⟩, HB.out.trans (HB1.out.setCell (p := ⟨w.heap.size + 1 + 1 + 1, 0, none⟩) (by simp; omega) _)⟩
    · exact (HB1.out.setCell (p := ⟨w.heap.size + 1 + 1 + 1, 0, none⟩) (by simp; omega) _).size
    · rintro k (h | rfl)
      · exact (HB1.out.setCell (p := ⟨w.heap.size + 1 + 1 + 1, 0, none⟩) (by simp; omega) _).block k h
      · exact (HbX1.out.other (by omega) _).trans HbX.out.symm
    · rw [List.map_append, List.map_singleton, foldV_snoc, ← HS.out]
      have e : (stepV d S x.1).1 = S.1.set x.1.1 q := by rw [stepV, ← HTe.out, ← HQe.out]
      rw [e]
      exact hRn.out.kept (Below.heap_setCell _ _ _ _ (by simp only; omega))
    · rw [List.map_append, List.map_singleton, foldV_snoc, ← HS.out]
      have e : (stepV d S x.1).2 = r := by rw [stepV, ← HTe.out, ← HRe.out]
      rw [e]
      exact HbR1.out.set _
  case done =>
    rintro D ys W hD hys ⟨⟨⟨hrow, hbD⟩, hbQ, hbR, hbX⟩, hB⟩ hK
    rw [hys] at hrow hbR
    have hfin := div_fin hd0 HBd.out
    have hinv : DvI d L.length (foldV d L.length (backP L L.length)) := foldV_inv hd0 _ (fun y hy => by rw [mem_backP' hy]; exact HBd.out _)
    obtain ⟨S, hS⟩ : ∃ S, S = foldV d L.length (backP L L.length) := ⟨_, rfl⟩
    rw [← hS] at hrow hbR hfin hinv
    have HFin := Lib.hid hfin
    have HInv := Lib.hid hinv
    have hr2 := hinv.lt
    have hrw : IntKind.u32.wrap (S.2 : Int) = (S.2 : Int) := by rw [IntKind.wrap_u32]; omega
    have HRw := Lib.hid hrow
    have hcQ := hbQ.cell
    have hcR := hbR.cell
    have HB := Lib.hid hB
    have hKlt : D < W.heap.size := (Array.getElem?_eq_some_iff.1 hK).1
    have hRlt := hbR.lt
    have hQlt := hbQ.lt
    have HK := Lib.hid hK
    clear hrow hbD hbQ hbR hbX hB hS hfin hinv hys hRow bD bQ bR bX hB0 hK
    gi_wp2
    refine wpIn_wide.2 ?_
    have HTr := Lib.hid (fun m => trim_row S.1 (W.drewN m) (w.heap.size + 1) L.length HInv.out.len.symm (by rw [HInv.out.len]; exact hl) HRw.out)
    go_quiet ((go_at_call 81; exact Calls.quiet_of_same (HTr.out _)))
    have hK2 : (W.drewN nq).heap[D]? = some (.deferred (some [])) := HK.out
    gi_wp2
    refine ⟨by simp, .inl ⟨_, _, rfl, run_takeDeferred hK2, ?_⟩⟩
    refine ⟨_, results_tmp2 rfl _ _ _, ?_⟩
    refine ⟨trimL S.1, _, by rw [← HFin.out.2]; rfl, (trim_lm (show Row (W.drewN nq) (w.heap.size + 1) S.1 from HRw.out)).putObj hK2, bd_trim HInv.out.bd, nm_trim _, by rw [val_trim, HFin.out.1], by have h1 := length_trim S.1; have h2 := HInv.out.len; omega, (below_drewN HB.out nq).trans (belowK_b (w := w) (Nat.le_refl _) _ D _ _ (by rw [HS0.out] at hD; omega) hK2 rfl rfl), _, _, rfl, by omega⟩
  case stop =>
    rintro D c pre W _ _ h _
    exact h.elim
end Go.Proofs.YtgcalhnfoakggaaGreatDoor
