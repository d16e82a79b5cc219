/- The program's own: unless, Write, Size, checkKey, Key. The program's own: checkKey, Key, Size. -/
import Derived.Test.YtppapkpceejnkaaGreatDoorKw
import Derived.Test.YtppapkpceejnkaaGreatDoorK21
import Derived.Deep.RegionHeld3
namespace Go.Proofs.YtppapkpceejnkaaGreatDoor
open Go.RowKit

/-- What the world must hold. -/
def Tv (w : World) : Prop := Tq w ∧ SizT w
theorem Tv.below {A B : World} (h : Tv A) (hb : Below A.heap.size A B) : Tv B := ⟨h.1.below hb, h.2.below hb⟩
theorem tq_err {w : World} (h : Tq w) : ErrR w := h.1.2
/-- A tree's plain item, none if it does not fit. -/
def docI (h : Hd) (k : Fo) : ByteArray := if chk 2 h k = 0 then arB (itB h k) else ⟨#[]⟩
def DocI (h : Hd) (k : Fo) (w : World) (o : Ending) (w' : World) : Prop := o = .returned (.tuple #[.string (docI h k), .int .i64 (chk 2 h k)]) ∧ Below w.heap.size w w'
/-- At the jump. -/
def JmpU (e : Int) (w : World) (a : Act) (w' : World) : Prop := (∃ u1 u2 u3 u4 u5 u6 u7 u8 u9 u10 u11 u12 u13 u14 u15 u16 u17 u18 : Value, a = { tmps := #[.int .i64 e, u1, u2, u3, u4, u5, u6, u7, u8, u9, u10, u11, u12, u13, u14, u15, u16, u17, u18], defers := [] }) ∧ Below w.heap.size w w'
theorem jmpU_mk {e : Int} {w w' : World} {u1 u2 u3 u4 u5 u6 u7 u8 u9 u10 u11 u12 u13 u14 u15 u16 u17 u18 : Value} (hb : Below w.heap.size w w') : JmpU e w { tmps := #[.int .i64 e, u1, u2, u3, u4, u5, u6, u7, u8, u9, u10, u11, u12, u13, u14, u15, u16, u17, u18], defers := [] } w' := ⟨⟨_, _, _, _, _, _, _, _, _, _, _, _, _, _, _, _, _, _, rfl⟩, hb⟩
set_option maxRecDepth 100000 in
set_option maxHeartbeats 1000000 in
theorem unless_calls (e : Int) (h : Hd) (k : Fo) (v : Value) (w : World) (hT : Tv w) (hk : Kd An w v k) (hu : h.u < 18446744073709551616) (he : e = 0 → chk 2 h k = 0) :
    Calls Tryz.prog 41 #[.int .i64 e, .agg (h.cells v)] w fun o w' => o = .returned (.tuple #[.string (if e = 0 then arB (itB h k) else ⟨#[]⟩), .int .i64 e]) ∧ Below w.heap.size w w' := by
  obtain ⟨A, c, rfl, _, _, _⟩ := hk.form
  have HX := Lib.hid (Nx.new w h (.slice A k.len c))
  have HB1 := Lib.hid (below_a (Below.refl w.heap.size w) (.cells (h.cells (.slice A k.len c)) 28))
  obtain ⟨q0, q1, q2, q3, q4, q5, q6, q7, q8⟩ := HX.out.nine
  have HT := Lib.hid hT
  have HK := Lib.hid hk
  by_cases hz : e = 0
  · subst hz
    have hgu := gu_one hk hu
    obtain ⟨hg, hcn, hdp⟩ := chk_gc (he rfl) hgu
    obtain ⟨I, hI⟩ : ∃ I, I = arB (itB h k) := ⟨_, rfl⟩
    have HI : Hid (∀ w2 b M V, Below w.heap.size w w2 → Wk w2 b M ⟨#[]⟩ V → Calls Tryz.prog 71 #[.pointer (some ⟨b, 0, none⟩), .agg (h.cells (.slice A k.len c))] V (PutC w2 b M (⟨#[]⟩ ++ I) V)) := Lib.hid (fun w2 b M V hb hV => by
      rw [hI]
      exact itemC_calls h k _ (HT.out.below hb).2 (tq_err (HT.out.below hb).1) hV (HK.out.below hb) hg (by omega) (by omega) (by show 0 ≤ 1000000; decide))
    have HPos : Hid (0 < I.size) := Lib.hid (by rw [hI, arB_size]; exact itB_pos h k)
    rw [if_pos rfl, ← hI]
    clear hI hg hgu hT hk he
    simp only [Hd.cells] at HX HB1 HI ⊢
    go_enter Tryz.func41, Tryz.ntmps41
    go_wp2
    refine wp_scope_straight ?_
    go_wp2_with fail
    refine (newC_calls _).mono ?_
    rintro o w3 ⟨b, M, rfl, hw⟩
    have HW := Lib.hid hw
    have HB3 := Lib.hid (below_nx HB1.out hw.hw)
    obtain ⟨q0, q1, q2, q3, q4, q5, q6, q7, q8⟩ := (show Nx _ w.heap.size h (.slice A k.len c) from HX.out.below hw.hw).nine
    clear hw
    go_wp2_with fail
    refine (HI.out _ _ _ _ HB1.out HW.out).mono ?_
    rintro o w4 ⟨rfl, h4, hk4⟩
    have hb4 : Below w.heap.size w w4 := HB3.out.trans (hk4.1.mono HB1.out.size)
    rw [show (ByteArray.mk #[]) ++ I = I from str_inj (by rw [app_data]; rfl)] at h4
    obtain ⟨_, p, vv, _, h5⟩ := h4
    have H5 := Lib.hid h5
    have HB4 := Lib.hid hb4
    clear h5 hb4 hk4 q0 q1 q2 q3 q4 q5 q6 q7 q8
    go_wp2_with fail
    refine (strC_calls H5.out HPos.out).mono ?_
    rintro o w5 ⟨rfl, hb5⟩
    have HB5 := Lib.hid (HB4.out.trans (hb5.mono HB1.out.size))
    clear hb5
    go_wp2
    refine ⟨by simp, ?_⟩
    refine ⟨.tuple #[.string I, .int .i64 0], by simp [results, Tryz.results41, go_sem], ?_⟩
    exact ⟨rfl, HB5.out⟩
  · have hz2 : (e != 0) = true := by simpa using hz
    have hz3 : (e == 0) = false := by simpa using hz
    rw [if_neg hz]
    clear hT hk he
    simp only [Hd.cells] at HB1 ⊢
    go_enter Tryz.func41, Tryz.ntmps41
    go_wp2
    refine wp_scope_jumps 0 (JmpU e w) (fun _ _ => 0) (by rfl) ?_ ?_
    · go_wp2
      refine wp_goto ?_
      exact ⟨rfl, jmpU_mk HB1.out⟩
    · rintro a w' ⟨⟨u1, u2, u3, u4, u5, u6, u7, u8, u9, u10, u11, u12, u13, u14, u15, u16, u17, u18, rfl⟩, hb⟩
      have HB := Lib.hid hb
      clear hb
      go_wp2
      rw [jump_ret]
      go_ret2
      exact ⟨rfl, HB.out⟩
set_option maxRecDepth 100000 in
set_option maxHeartbeats 1000000 in
theorem Write_calls12 (h : Hd) (k : Fo) (v : Value) (w : World) (hT : Tv w) (hk : Kd An w v k) (hu : h.u < 18446744073709551616) (hd : k.deep < 1000) (hS : AllG Gl (.cons h k .nil)) :
    Calls Tryz.prog 24 #[.agg (h.cells v)] w (DocI h k w) := by
  obtain ⟨A, c, rfl, _, _, _⟩ := hk.form
  obtain ⟨e, he⟩ : ∃ e, e = chk 2 h k := ⟨_, rfl⟩
  have HT := Lib.hid hT
  have HK := Lib.hid hk
  have HC : Hid (∀ W, Below w.heap.size w W → Calls Tryz.prog 17 #[.agg (h.cells (.slice A k.len c)), .int .i64 2] W fun o w' => o = .returned (.int .i64 e) ∧ Below W.heap.size W w') := Lib.hid (fun W hb => by rw [he]; exact Check_calls 2 k h _ W (HT.out.below hb).1 (HK.out.below hb) hu hd hS)
  have HU : Hid (∀ W, Below w.heap.size w W → Calls Tryz.prog 41 #[.int .i64 e, .agg (h.cells (.slice A k.len c))] W fun o w' => o = .returned (.tuple #[.string (docI h k), .int .i64 e]) ∧ Below W.heap.size W w') := Lib.hid (fun W hb => by
    have := unless_calls e h k (.slice A k.len c) W (HT.out.below hb) (HK.out.below hb) hu (fun h0 => by rw [← he]; exact h0)
    rw [docI, ← he]
    exact this)
  have HX := Lib.hid (Nx.new w h (.slice A k.len c))
  have HB1 := Lib.hid (below_a (Below.refl w.heap.size w) (.cells (h.cells (.slice A k.len c)) 28))
  obtain ⟨D, hD⟩ : ∃ D, D = docI h k := ⟨_, rfl⟩
  have hmxH : Tryz.prog.follows .mixedOrders = true := by kernel_rfl
  unfold DocI
  rw [← he, ← hD]
  rw [← hD] at HU
  clear hD he hT hk hu hd hS
  obtain ⟨W1, hW1⟩ : ∃ W1, W1 = w.alloc (.cells (h.cells (.slice A k.len c)) 28) := ⟨_, rfl⟩
  rw [← hW1] at HB1
  have HX1 : Hid (Nx W1 w.heap.size h (.slice A k.len c)) := Lib.hid (by rw [hW1]; exact Nx.new w h _)
  obtain ⟨q0, q1, q2, q3, q4, q5, q6, q7, q8⟩ := HX1.out.nine
  simp only [Hd.cells] at HC HU hW1 ⊢
  go_enter Tryz.func24, Tryz.ntmps24
  go_wp2_with fail
  rw [← hW1]
  clear hW1
  refine wp_region_held_drew (S := fun w' => w'.cell? ⟨w.heap.size, 0, none⟩ = some (.int .i64 h.kind) ∧ w'.cell? ⟨w.heap.size, 1, none⟩ = some (.bool h.b) ∧ w'.cell? ⟨w.heap.size, 2, none⟩ = some (.bool h.neg) ∧ w'.cell? ⟨w.heap.size, 3, none⟩ = some (.string h.dig) ∧ w'.cell? ⟨w.heap.size, 4, none⟩ = some (.int .i64 h.exp) ∧ w'.cell? ⟨w.heap.size, 5, none⟩ = some (.int .u64 (h.u : Int)) ∧ w'.cell? ⟨w.heap.size, 6, none⟩ = some (.int .i64 h.w) ∧ w'.cell? ⟨w.heap.size, 7, none⟩ = some (.string h.s) ∧ w'.cell? ⟨w.heap.size, 8, none⟩ = some (.slice A k.len c)) hmxH ⟨q0, q1, q2, q3, q4, q5, q6, q7, q8⟩ ?_
  clear q0 q1 q2 q3 q4 q5 q6 q7 q8
  obtain ⟨V1, hV1⟩ : ∃ V1, V1 = W1.drew := ⟨_, rfl⟩
  have HXV : Hid (Nx V1 w.heap.size h (.slice A k.len c)) := Lib.hid (by rw [hV1]; exact HX1.out)
  have HBV : Hid (Below w.heap.size w V1) := Lib.hid (by rw [hV1]; exact HB1.out.drew)
  rw [← hV1]
  clear hV1
  intro hHeld
  refine wpAnyH_take (i := 0) (v := .agg #[.int .i64 h.kind, .bool h.b, .bool h.neg, .string h.dig, .int .i64 h.exp, .int .u64 (h.u : Int), .int .i64 h.w, .string h.s, .slice A k.len c]) rfl (by kernel_rfl) (by kernel_rfl) (by kernel_rfl) (fun _ _ _ h => h) (Or.inl ⟨by rfl, by rintro w ⟨g0, g1, g2, g3, g4, g5, g6, g7, g8⟩; go_simp⟩) hHeld ?_
  refine wpAnyH_take (i := 2) (v := .agg #[.int .i64 h.kind, .bool h.b, .bool h.neg, .string h.dig, .int .i64 h.exp, .int .u64 (h.u : Int), .int .i64 h.w, .string h.s, .slice A k.len c]) rfl (by kernel_rfl) (by kernel_rfl) (by kernel_rfl) (fun _ _ _ h => h) (Or.inl ⟨by rfl, by rintro w ⟨g0, g1, g2, g3, g4, g5, g6, g7, g8⟩; go_simp⟩) hHeld ?_
  refine wpAnyH_ready (rs := [1]) (by kernel_rfl) (by simp) ?_
  refine AllReadyH.cons rfl (fun K hK => ?_) AllReadyH.nil
  go_simp
  refine (HC.out _ HBV.out).mono ?_
  rintro o w2 ⟨rfl, hb2⟩
  have HX2 := Lib.hid (HXV.out.below hb2)
  have HB2 := Lib.hid (below_nx HBV.out hb2)
  clear hb2
  refine hK.out _ _ HX2.out.nine (fun hHeld => ?_)
  clear hK K
  refine wpAnyH_ready (rs := [3]) (by kernel_rfl) (by simp) ?_
  refine AllReadyH.cons rfl (fun K hK => ?_) AllReadyH.nil
  go_simp
  refine (HU.out _ HB2.out).mono ?_
  rintro o w3 ⟨rfl, hb3⟩
  have HX3 := Lib.hid (HX2.out.below hb3)
  have HB3 := Lib.hid (below_nx HB2.out hb3)
  clear hb3
  refine hK.out _ _ HX3.out.nine (fun hHeld => ?_)
  clear hK K
  refine wpAnyH_take (i := 4) (v := .string D) rfl (by kernel_rfl) (by kernel_rfl) (by kernel_rfl) (fun _ _ _ h => h) (Or.inl ⟨by rfl, by rintro w ⟨g0, g1, g2, g3, g4, g5, g6, g7, g8⟩; go_simp⟩) hHeld ?_
  refine wpAnyH_take (i := 5) (v := .int .i64 e) rfl (by kernel_rfl) (by kernel_rfl) (by kernel_rfl) (fun _ _ _ h => h) (Or.inl ⟨by rfl, by rintro w ⟨g0, g1, g2, g3, g4, g5, g6, g7, g8⟩; go_simp⟩) hHeld ?_
  refine wpAnyH_ready (rs := [6]) (by kernel_rfl) (by simp) ?_
  refine AllReadyH.cons rfl (fun K hK => ?_) AllReadyH.nil
  go_simp
  refine hK.out _ _ hHeld (fun hHeld => ?_)
  clear hK K
  refine wpAnyH_ready (rs := [7]) (by kernel_rfl) (by simp) ?_
  refine AllReadyH.cons rfl (fun K hK => ?_) AllReadyH.nil
  go_simp
  refine hK.out _ _ hHeld (fun hHeld => ?_)
  clear hK K
  refine wpAnyH_done (by kernel_rfl) ?_ _
  clear hHeld
  go_wp2
  go_ret2
  exact ⟨rfl, HB3.out⟩
end Go.Proofs.YtppapkpceejnkaaGreatDoor
namespace Go.Proofs.YtppapkpceejnkaaGreatDoor
open Go.RowKit

end Go.Proofs.YtppapkpceejnkaaGreatDoor
