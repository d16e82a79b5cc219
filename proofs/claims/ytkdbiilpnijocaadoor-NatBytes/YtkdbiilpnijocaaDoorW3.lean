/- The walk of compare. -/
import Derived.Test.YtkdbiilpnijocaaDoorW2
import Derived.Test.YtkdbiilpnijocaaDoorMath
namespace Go.Proofs.YtkdbiilpnijocaaDoor
open Go.RowKit Go.Shelf

attribute [local go_sem] Oper.semAt_some

theorem cmpI_lt {a b : Int} (h : a < b) : cmpI a b = -1 := by simp [cmpI, h]
theorem cmpI_gt {a b : Int} (h : b < a) : cmpI a b = 1 := by rw [cmpI, if_neg (by omega), if_pos h]
theorem cmpI_eq (a : Int) : cmpI a a = 0 := by simp [cmpI]

/-- What compare hands back, and that nothing turned. -/
def CmpPost (L M : List Nat) (w : World) (e : Ending) (w' : World) : Prop := e = .returned (.int .i64 (cmpI (val L) (val M))) ∧ Below w.heap.size w w'

theorem cmp_len {L M : List Nat} (bL : Bd L) (bM : Bd M) (nL : Nm L) (nM : Nm M) (h : L.length ≠ M.length) : cmpI (L.length : Int) (M.length : Int) = cmpI (val L) (val M) := by
  rcases Nat.lt_or_gt_of_ne h with h | h
  · rw [cmpI_lt (by omega), cmpI_lt (by have := val_lt_of_length bL nM h; omega)]
  · rw [cmpI_gt (by omega), cmpI_gt (by have := val_lt_of_length bM nL h; omega)]

set_option maxHeartbeats 400000 in
theorem compare_ne (L M : List Nat) (a b : Option Addr) (ca cb : Nat) (w : World)
    (bL : Bd L) (bM : Bd M) (nL : Nm L) (nM : Nm M) (hne : L.length ≠ M.length) : Calls Tryd.prog 36 #[.slice a L.length ca, .slice b M.length cb] w (CmpPost L M w) := by
  have HE := Lib.hid (cmp_len bL bM nL nM hne)
  have hne1 : ((L.length : Int) != (M.length : Int)) = true := by rw [bne_iff_ne]; omega
  clear bL bM nL nM hne
  go_enter Tryd.func36, Tryd.ntmps36
  go_wp2_with (go_at_call 53; refine (cmpInt_calls _ _ _).mono ?_; rintro e w' ⟨rfl, rfl⟩)
  refine bodyPost_ret (v := .int .i64 (cmpI (L.length : Int) (M.length : Int))) (by simp [results, Tryd.results36, go_sem]) rfl ⟨by rw [HE.out], ?_⟩
  exact ((Below.refl _ w).alloc (Nat.le_refl _) _).alloc (by simp) _

theorem cmp_place {L M : List Nat} (bL : Bd L) (bM : Bd M) (hlen : L.length = M.length) {i : Nat} (hi : i < L.length) (h : lat L i ≠ lat M i) (hab : ∀ j, i < j → j < L.length → lat L j = lat M j) :
    cmpI (lat L i : Nat) (lat M i : Nat) = cmpI (val L) (val M) := by
  rcases Nat.lt_or_gt_of_ne h with h | h
  · have := vt_lt_of_place hi bL h hab
    rw [cmpI_lt (by omega), cmpI_lt (by unfold val; rw [← hlen]; omega)]
  · have := vt_lt_of_place hi bM h (fun j h1 h2 => (hab j h1 h2).symm)
    rw [cmpI_gt (by omega), cmpI_gt (by unfold val; rw [← hlen]; omega)]

theorem cmp_same {L M : List Nat} (hlen : L.length = M.length) (h : ∀ j, j < L.length → lat L j = lat M j) : (0 : Int) = cmpI (val L) (val M) := by
  have : val L = val M := by unfold val; rw [← hlen]; exact vt_congr h
  rw [this, cmpI_eq]

theorem mem_backP {L : List Nat} {k j : Nat} (hj : j < L.length) (hk : L.length ≤ j + k) : (j, lat L j) ∈ backP L k := by
  simp only [backP, List.mem_map, List.mem_range]
  exact ⟨L.length - 1 - j, by omega, by rw [show L.length - 1 - (L.length - 1 - j) = j from by omega]⟩

set_option maxRecDepth 100000 in
set_option maxHeartbeats 2000000 in
theorem compare_eq (L M : List Nat) (vx vy : Value) (a b : Option Addr) (ca cb : Nat) (w : World) (hL : L.length ≤ 1000) (hx : Lm w vx L) (hy : Lm w vy M) (ex : vx = .slice a L.length ca) (ey : vy = .slice b M.length cb)
    (bL : Bd L) (bM : Bd M) (hlen : L.length = M.length) : Calls Tryd.prog 36 #[vx, vy] w (CmpPost L M w) := by
  subst ex ey
  have hne1 : ((L.length : Int) != (M.length : Int)) = false := by rw [hlen]; simp
  refine (callsIn_wide (n := 5)).1 ?_
  refine callsIn_of_wp_marks Tryd.func36 rfl trivial ?_ rfl
  simp only [Tryd.ntmps36, List.size_toArray, List.length_cons, List.length_nil, Nat.reduceAdd, Nat.reduceSub, Array.replicate_succ, Array.replicate_zero, List.push_toArray, List.append_toArray, List.nil_append, List.cons_append]
  have HL := Lib.hid hlen
  have HX := Lib.hid hx
  have HYy := Lib.hid hy
  have HBL := Lib.hid bL
  have HBM := Lib.hid bM
  clear hlen hx hy bL bM
  gi_wp2_with (refine ⟨trivial, ?_⟩; gi_at_call 54; refine (back_in _ _ _ _ _ _ rfl).mono ?_; rintro e w' ⟨rfl, rfl⟩)
  have bY : Boxed (((w.alloc (.cells #[.slice b M.length cb] 50)).alloc (.cells #[.int .i64 0] 3)).alloc (.cells #[.slice a L.length ca] 50)) w.heap.size 50 (.slice b M.length cb) := ((Boxed.new w 50 _).alloc _).alloc _
  have bR : Boxed (((w.alloc (.cells #[.slice b M.length cb] 50)).alloc (.cells #[.int .i64 0] 3)).alloc (.cells #[.slice a L.length ca] 50)) (w.heap.size + 1) 3 (.int .i64 0) := by
    have := Boxed.new (w.alloc (.cells #[.slice b M.length cb] 50)) 3 (.int .i64 0)
    rw [World.size_alloc] at this
    exact this.alloc _
  have bX := Boxed.new ((w.alloc (.cells #[.slice b M.length cb] 50)).alloc (.cells #[.int .i64 0] 3)) 50 (.slice a L.length ca)
  rw [World.size_alloc, World.size_alloc] at bX
  have hB0 : Below w.heap.size w (((w.alloc (.cells #[.slice b M.length cb] 50)).alloc (.cells #[.int .i64 0] 3)).alloc (.cells #[.slice a L.length ca] 50)) := (((Below.refl _ w).alloc (Nat.le_refl _) _).alloc (by simp) _).alloc (by simp; omega) _
  refine wpIn_rangeFunc_ownG rfl (by omega) (gf := 67) (lb := #[.pointer (some ⟨w.heap.size + 1 + 1, 0, none⟩)]) rfl trivial (enters_of Tryd.func67 (by kernel_rfl) rfl)
    (back_stops (5 - 1) (by omega) (w.heap.size + 1 + 1) (fun k => k < w.heap.size ∨ k = w.heap.size + 1 + 1) (.slice a L.length ca) L hL _ (by simp) (.inr rfl) bX.cell (HX.out.below hB0)
      (fun b' off len cap e => by
        rcases HX.out with ⟨e2, _⟩ | ⟨b2, off2, cap2, e2, _, h2, _⟩
        · rw [e] at e2; cases e2
        · rw [e] at e2; cases e2; exact .inl h2)) Kpt.trans (Kpt.book (by rintro k (h | h) <;> simp <;> omega)) (Below.refl _ _) (fun _ => rfl)
    (fun pre W => ((∀ p ∈ pre, p.1.2 = lat M p.1.1) ∧ Boxed W w.heap.size 50 (.slice b M.length cb) ∧ Boxed W (w.heap.size + 1) 3 (.int .i64 0)) ∧ Below w.heap.size w W)
    (fun c pre W => (c = .ret ∧ ∃ ini last, pre = ini ++ [last] ∧ (∀ p ∈ ini, p.1.2 = lat M p.1.1) ∧ last.1.2 ≠ lat M last.1.1 ∧ Boxed W (w.heap.size + 1) 3 (.int .i64 (cmpI (last.1.2 : Nat) (lat M last.1.1 : Nat)))) ∧ Below w.heap.size w W)
    (OwnFrom.and (OwnFrom.and (ownFrom_pure _ _) (OwnFrom.and (Own.from (boxed_own _ _ _) _) (Own.from (boxed_own _ _ _) _))) (ownFrom_below (Nat.le_refl _) (by simp; omega)))
    (fun c => OwnFrom.and (Own.from (fun s A B row hs hg hr => by obtain ⟨hc, ini, last, e1, e2, e3, e4⟩ := hs; exact ⟨hc, ini, last, e1, e2, e3, boxed_own (β := Unit) _ _ (fun _ => _) () A B row e4 hg hr⟩) _) (ownFrom_below (Nat.le_refl _) (by simp; omega)))
    ⟨⟨by simp, bY, bR⟩, hB0⟩
    (fun x => { tmps := #[.slice a L.length ca, .slice b M.length cb, undef, .pointer (some ⟨w.heap.size, 0, none⟩), .pointer (some ⟨w.heap.size + 1, 0, none⟩), .int .i64 (x.1.1 : Int), .int .u32 (x.1.2 : Int), .slice a L.length ca, .int .i64 (L.length : Int), .slice b M.length cb, .int .i64 (M.length : Int), .bool false, undef, undef, undef, undef, undef, .slice a L.length ca, .func (.func 67) #[] #[.pointer (some ⟨w.heap.size + 1 + 1, 0, none⟩)], .int .i64 (x.1.1 : Int), .int .u32 (x.1.2 : Int), undef, undef, undef, undef, undef, undef, undef, undef, undef, undef, undef, undef], defers := [] }) ?assign ?body ?done ?stop
  case assign =>
    intro l x W K hK
    gi_wp2
    exact hK
  case body =>
    rintro l pre x W ⟨⟨hp, hbY, hbR⟩, hB⟩ _
    have HP := Lib.hid hp
    have hi := x.2.1
    have hcY := hbY.cell
    have hcR := hbR.cell
    have hfR := hbR.frozen
    rcases HYy.out with ⟨e, e2⟩ | ⟨bb, off, cap, e, _, hbb, hcy⟩
    · exfalso; have h := HL.out; rw [e2] at h; simp at h; subst h; simp at hi
    · have hiM : x.1.1 < M.length := by have := HL.out; omega
      have hcell : W.cell? ⟨bb, off + x.1.1, none⟩ = some (.int .u32 (lat M x.1.1 : Nat)) := (hB.cell (p := ⟨bb, off + x.1.1, none⟩) hbb).trans (hcy _ hiM)
      obtain ⟨rfl, rfl⟩ : b = some ⟨bb, off, none⟩ ∧ cb = cap := by cases e; exact ⟨rfl, rfl⟩
      clear hcy e hp
      by_cases hne : x.1.2 = lat M x.1.1
      · have HN := Lib.hid hne
        have hb1 : ((x.1.2 : Int) != (lat M x.1.1 : Int)) = false := by rw [hne]; simp
        clear hne
        gi_wp2
        exact ⟨KeepsFrom.refl _ _, Kpt.refl _ _, ⟨fun p hp' => (List.mem_append.1 hp').elim (HP.out p) (fun e => by simp at e; subst e; exact HN.out), hbY, hbR⟩, hB⟩
      · have HN := Lib.hid hne
        have hb1 : ((x.1.2 : Int) != (lat M x.1.1 : Int)) = true := by rw [bne_iff_ne]; omega
        clear hne
        gi_wp2_with (refine ⟨trivial, ?_⟩; gi_at_call 55; refine (CallsIn.inRound l (callsIn_wide.2 (cmpU32_calls _ _ _))).mono ?_; rintro e w' ⟨rfl, rfl⟩)
        exact ⟨(KeepsOthers.setCell _ _ _).from _, ⟨rfl, pre, _, rfl, HP.out, HN.out, hbR.set _⟩, hB.setCell (p := ⟨w.heap.size + 1, 0, none⟩) (by simp) _⟩
  case done =>
    rintro D ys W hD hys ⟨⟨hne, hbY, hbR⟩, hB⟩ hK
    have HN := Lib.hid hne
    have HYs := Lib.hid hys
    have hcR := hbR.cell
    have hfR := hbR.frozen
    clear hne hys
    gi_wp2
    have hK' := (KeepsOthers.setCell W ⟨w.heap.size + 1, 0, none⟩ (.int .i64 0)).same D _ hK rfl
    refine ⟨by simp, .inl ⟨_, _, rfl, run_takeDeferred hK', ?_⟩⟩
    have hc5 := cell_kept ((hbR.set (.int .i64 0)).cell) (grownBy_putObj' _ D (.deferred none)) (fun r e => by cases e; exact ⟨_, hK', rfl⟩)
    refine ⟨.int .i64 0, ?_, ?_, (hB.setCell (p := ⟨w.heap.size + 1, 0, none⟩) (by simp) _).trans (belowK_b (w := w) (Nat.le_refl _) _ D _ _ (by simp at hD; omega) hK' rfl rfl)⟩
    · simp [results, Tryd.f36, go_sem, hc5]
    · rw [cmp_same HL.out (fun j hj => by
        have hm : (j, lat L j) ∈ ys.map (·.1) := by rw [HYs.out]; exact mem_backP hj (by omega)
        obtain ⟨p, hp, he⟩ := List.mem_map.1 hm
        have := HN.out p hp
        rw [he] at this
        exact this)]
  case stop =>
    rintro D c pre W hD ⟨k, hk, hpre⟩ ⟨⟨rfl, ini, last, e1, e2, e3, hbR⟩, hB⟩ hK
    have hcR := hbR.cell
    have HE := Lib.hid e1
    have H2 := Lib.hid e2
    have H3 := Lib.hid e3
    have HP := Lib.hid hpre
    clear e1 e2 e3 hpre
    gi_wp2
    refine ⟨by simp, .inl ⟨_, _, rfl, run_takeDeferred hK, ?_⟩⟩
    have hc5 := cell_kept hcR (grownBy_putObj' _ D (.deferred none)) (fun r e => by cases e; exact ⟨_, hK, rfl⟩)
    refine ⟨.int .i64 (cmpI (last.1.2 : Nat) (lat M last.1.1 : Nat)), ?_, ?_, hB.trans (belowK_b (w := w) (Nat.le_refl _) _ D _ _ (by simp at hD; omega) hK rfl rfl)⟩
    · simp [results, Tryd.f36, go_sem, hc5]
    · have hp := HP.out
      rw [HE.out, List.map_append] at hp
      cases k with
      | zero => simp [backP] at hp
      | succ k =>
        rw [backP_succ] at hp
        obtain ⟨h1, h2⟩ := List.append_inj' hp rfl
        have h3 : last.1 = (L.length - 1 - k, lat L (L.length - 1 - k)) := by simpa using h2
        have h4 := H3.out
        rw [h3] at h4 ⊢
        rw [cmp_place HBL.out HBM.out HL.out (by omega) h4 (fun j hj1 hj2 => by
          have hm : (j, lat L j) ∈ ini.map (·.1) := by rw [h1]; exact mem_backP hj2 (by omega)
          obtain ⟨p, hp, he⟩ := List.mem_map.1 hm
          have := H2.out p hp
          rw [he] at this
          exact this)]

theorem compare_calls (vx vy : Value) (L M : List Nat) (w : World) (hL : L.length ≤ 1000) (hx : Lm w vx L) (hy : Lm w vy M)
    (bL : Bd L) (bM : Bd M) (nL : Nm L) (nM : Nm M) : Calls Tryd.prog 36 #[vx, vy] w (CmpPost L M w) := by
  obtain ⟨a, ca, ex⟩ := hx.shape
  obtain ⟨b, cb, ey⟩ := hy.shape
  by_cases h : L.length = M.length
  · exact compare_eq L M vx vy a b ca cb w hL hx hy ex ey bL bM h
  · subst ex ey
    exact compare_ne L M a b ca cb w bL bM nL nM h

end Go.Proofs.YtkdbiilpnijocaaDoor
