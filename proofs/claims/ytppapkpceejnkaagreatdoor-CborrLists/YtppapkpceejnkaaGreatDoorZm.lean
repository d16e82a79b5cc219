/- The program's own: a chunk. -/
import Derived.Test.YtppapkpceejnkaaGreatDoorZl
import Derived.Deep.RegionWith
namespace Go.Proofs.YtppapkpceejnkaaGreatDoor
open Go.RowKit

theorem chunk_str (m : Nat) (l : List UInt8) : chunkI FC m l = match rdL l with
    | .error e => .error (hE e)
    | .ok (j, k, a, r) => if j ≠ m ∨ k = 31 then .error 110 else strR m a r := by
  unfold chunkI strR
  cases rdL l with
  | error e => rfl
  | ok y => rfl
section
variable {w0 W : World} {b wn : Nat} {l : List UInt8}
theorem strp_calls (m k a : Nat) (hm : m = 2 ∨ m = 3) (hk : k ≠ 31) (ha : a < 18446744073709551616) (hl : l.length < 1000000) (h : Rd w0 b l wn W) :
    Calls Tryz.prog (if m = 2 then 60 else 61) #[.pointer (some ⟨b, 0, none⟩), hdV (m : Int) (k : Int) (a : Int)] W (AnsP w0 b wn W (strR m a l)) :=
  str_part _ m k a (by rcases hm with rfl | rfl; exact .inl ⟨rfl, rfl⟩; exact .inr ⟨rfl, rfl⟩) (strR m a) h (Lib.hid fun V hr => joined_def m k a hk ha hl hr)
set_option maxRecDepth 100000 in
set_option maxHeartbeats 2000000 in
theorem chunk_calls (m c1 c2 : Nat) (hm : m = 2 ∨ m = 3) (hT : Tc w0) (hl : l.length < 1000000) (h : Rd w0 b l wn W) (h1 : Bx W c1 #[.pointer (some ⟨b, 0, none⟩)] 67) (h2 : Bx W c2 #[.int .i64 (m : Int)] 3) (hc1 : c1 ≠ b) (hc2 : c2 ≠ b) :
    Calls Tryz.prog 190 #[.pointer (some ⟨c1, 0, none⟩), .pointer (some ⟨c2, 0, none⟩)] W (AnsP w0 b wn W (chunkI FC m l)) := by
  have H := Lib.hid h
  have HH := Lib.hid (fun V (hr : Rd w0 b l wn V) => heading_calls hT hr)
  have H1 := Lib.hid h1
  have H2 := Lib.hid h2
  have hlW := h.lt
  have hl1 := h1.lt
  have hl2 := h2.lt
  have e1 : (W.alloc (.cells #[.int .i64 0, .bool false, .bool false, .string ⟨#[]⟩, .int .i64 0, .int .u64 0, .int .i64 0, .string ⟨#[]⟩, .slice none 0 0] 28)).cell? ⟨c1, 0, none⟩ = some (.pointer (some ⟨b, 0, none⟩)) := (h1.alloc _).c 0 rfl
  have e2 : W.cell? ⟨c1, 0, none⟩ = some (.pointer (some ⟨b, 0, none⟩)) := h1.c 0 rfl
  rw [chunk_str]
  unfold HdP at HH
  clear h h1 h2 hT
  cases hr : rdL l with
  | error e =>
    rw [hr] at HH
    simp only at HH
    go_enter Tryz.func190, Tryz.ntmps190
    go_wp2_with fail
    refine (HH.out _ (H.out.alloc _)).mono ?_
    rintro o w3 ⟨hg3, rfl, hr3⟩
    have HX := Lib.hid (gr_bx (Bx.new W (zH.cells (.slice none 0 0)) 28) hg3 (fun e => by have := Option.some.inj e; omega))
    have HG3 := Lib.hid (gr_trans (gr_alloc W (.cells (zH.cells (.slice none 0 0)) 28) (some b)) hg3)
    have hs3 : W.heap.size < w3.heap.size := HX.out.lt
    obtain ⟨p0, p1, p2, p3, p4, p5, p6, p7, p8⟩ := (show Nx w3 W.heap.size zH (.slice none 0 0) from HX.out).nine
    obtain ⟨x0, x1, x2, x3, x4, x5, x6, x7, x8⟩ := nx_f (show Nx w3 W.heap.size zH (.slice none 0 0) from HX.out)
    have HR := Lib.hid hr3
    clear hg3 hr3
    go_wp2_with fail
    obtain ⟨W5, hW5⟩ : ∃ W5, W5 = (setN w3 W.heap.size zH (.slice none 0 0)).alloc (.cells #[.int .i64 0, .int .i64 0, .int .u64 0] 119) := ⟨_, rfl⟩
    have hX5 : Nx W5 W.heap.size zH (.slice none 0 0) := by rw [hW5]; exact ((show Nx w3 W.heap.size zH (.slice none 0 0) from HX.out).setN _ _).alloc _
    have hg5 : W.grownBy W5 (some b) := by rw [hW5]; exact gr_trans (gr_new HG3.out (gr_setN _ _ _ _) (by omega)) (gr_alloc _ _ _)
    have hR5 : Rd w0 b l wn W5 := by rw [hW5]; exact (HR.out.other (gr_setN _ _ _ _) (by have := H.out.base; omega) (by omega)).alloc _
    simp only [setN, zH, Int.cast_ofNat_Int] at hW5
    rw [← hW5]
    clear hW5
    refine bodyPost_ret (res_ct Tryz.results190 _ _ W.heap.size _ _ rfl rfl (ldNd hX5)) rfl ?_
    exact ⟨hg5, rfl, _, hR5⟩
  | ok y =>
    obtain ⟨j, k, a, r⟩ := y
    have hrl := rdL_lt hr
    have hlr := rdL_len hr
    rw [hr] at HH
    simp only at HH ⊢
    have HE : Hid (∀ V, Calls Tryz.prog 105 #[.agg #[.int .i64 (j : Int), .int .i64 (k : Int), .int .u64 (a : Int)]] V fun o w' => o = .returned (.bool (decide ((k : Int) = 31))) ∧ Below V.heap.size V w') := Lib.hid (fun V => isOpen_calls _ _ _ V)
    by_cases hjm : j = m
    · subst hjm
      by_cases hk : k = 31
      · rw [if_pos (.inr hk)]
        have hop : decide ((k : Int) = 31) = true := by simp; omega
        rw [hop] at HE
        have HK := Lib.hid hk
        clear hk
        go_enter Tryz.func190, Tryz.ntmps190
        go_wp2_with fail
        refine (HH.out _ (H.out.alloc _)).mono ?_
        rintro o w3 ⟨hg3, rfl, hr3⟩
        have HX := Lib.hid (gr_bx (Bx.new W (zH.cells (.slice none 0 0)) 28) hg3 (fun e => by have := Option.some.inj e; omega))
        have HG3 := Lib.hid (gr_trans (gr_alloc W (.cells (zH.cells (.slice none 0 0)) 28) (some b)) hg3)
        have hs3 : W.heap.size < w3.heap.size := HX.out.lt
        obtain ⟨p0, p1, p2, p3, p4, p5, p6, p7, p8⟩ := (show Nx w3 W.heap.size zH (.slice none 0 0) from HX.out).nine
        obtain ⟨x0, x1, x2, x3, x4, x5, x6, x7, x8⟩ := nx_f (show Nx w3 W.heap.size zH (.slice none 0 0) from HX.out)
        have HR := Lib.hid hr3
        have d2 : w3.cell? ⟨c2, 0, none⟩ = some (.int .i64 (j : Int)) := (gr_bx (H2.out.alloc _) hg3 (fun e => hc2 (Option.some.inj e))).c 0 rfl
        have hc2l : c2 < w3.heap.size := by omega
        clear hg3 hr3
        go_wp2_with fail
        refine (HE.out _).mono ?_
        rintro o w4 ⟨rfl, hb4⟩
        have HX4 := Lib.hid ((HX.out.alloc (.cells #[.int .i64 (j : Int), .int .i64 (k : Int), .int .u64 (a : Int)] 119)).below hb4)
        have HG4 := Lib.hid (gr_trans (gr_trans HG3.out (gr_alloc _ (.cells #[.int .i64 (j : Int), .int .i64 (k : Int), .int .u64 (a : Int)] 119) _)) (gr_below hb4))
        have HR4 := Lib.hid ((HR.out.alloc _).below hb4)
        clear hb4 p0 p1 p2 p3 p4 p5 p6 p7 p8 x0 x1 x2 x3 x4 x5 x6 x7 x8
        obtain ⟨p0, p1, p2, p3, p4, p5, p6, p7, p8⟩ := (show Nx w4 W.heap.size zH (.slice none 0 0) from HX4.out).nine
        obtain ⟨x0, x1, x2, x3, x4, x5, x6, x7, x8⟩ := nx_f (show Nx w4 W.heap.size zH (.slice none 0 0) from HX4.out)
        have hl4 := HX4.out.lt
        go_wp2_with fail
        obtain ⟨W5, hW5⟩ : ∃ W5, W5 = setN w4 W.heap.size zH (.slice none 0 0) := ⟨_, rfl⟩
        have hX5 : Nx W5 W.heap.size zH (.slice none 0 0) := by rw [hW5]; exact (show Nx w4 W.heap.size zH (.slice none 0 0) from HX4.out).setN _ _
        have hg5 : W.grownBy W5 (some b) := by rw [hW5]; exact gr_new HG4.out (gr_setN _ _ _ _) (by omega)
        have hR5 : Rd w0 b r wn W5 := by rw [hW5]; exact HR4.out.other (gr_setN _ _ _ _) (by have := H.out.base; omega) (by omega)
        simp only [setN, zH, Int.cast_ofNat_Int] at hW5
        rw [← hW5]
        clear hW5
        refine bodyPost_ret (res_ct Tryz.results190 _ _ W.heap.size _ _ rfl rfl (ldNd hX5)) rfl ?_
        exact ⟨hg5, rfl, _, hR5⟩
      · rw [if_neg (by simp [hk])]
        have hop : decide ((k : Int) = 31) = false := by simp; omega
        rw [hop] at HE
        have HK := Lib.hid hk
        clear hk
        go_enter Tryz.func190, Tryz.ntmps190
        go_wp2_with fail
        refine (HH.out _ (H.out.alloc _)).mono ?_
        rintro o w3 ⟨hg3, rfl, hr3⟩
        have HX := Lib.hid (gr_bx (Bx.new W (zH.cells (.slice none 0 0)) 28) hg3 (fun e => by have := Option.some.inj e; omega))
        have HG3 := Lib.hid (gr_trans (gr_alloc W (.cells (zH.cells (.slice none 0 0)) 28) (some b)) hg3)
        have hs3 : W.heap.size < w3.heap.size := HX.out.lt
        obtain ⟨p0, p1, p2, p3, p4, p5, p6, p7, p8⟩ := (show Nx w3 W.heap.size zH (.slice none 0 0) from HX.out).nine
        obtain ⟨x0, x1, x2, x3, x4, x5, x6, x7, x8⟩ := nx_f (show Nx w3 W.heap.size zH (.slice none 0 0) from HX.out)
        have HR := Lib.hid hr3
        have d2 : w3.cell? ⟨c2, 0, none⟩ = some (.int .i64 (j : Int)) := (gr_bx (H2.out.alloc _) hg3 (fun e => hc2 (Option.some.inj e))).c 0 rfl
        have hc2l : c2 < w3.heap.size := by omega
        have d1 : w3.cell? ⟨c1, 0, none⟩ = some (.pointer (some ⟨b, 0, none⟩)) := (gr_bx (H1.out.alloc _) hg3 (fun e => hc1 (Option.some.inj e))).c 0 rfl
        have hc1l : c1 < w3.heap.size := by omega
        clear hg3 hr3
        go_wp2_with fail
        refine (HE.out _).mono ?_
        rintro o w4 ⟨rfl, hb4⟩
        have HX4 := Lib.hid ((HX.out.alloc (.cells #[.int .i64 (j : Int), .int .i64 (k : Int), .int .u64 (a : Int)] 119)).below hb4)
        have HB4 := Lib.hid (below_nx (below_a (Below.refl w3.heap.size w3) (.cells #[.int .i64 (j : Int), .int .i64 (k : Int), .int .u64 (a : Int)] 119)) hb4)
        have HG4 := Lib.hid (gr_trans HG3.out (gr_below HB4.out))
        have HR4 := Lib.hid (HR.out.below HB4.out)
        have HY4 := Lib.hid ((Bx.new w3 #[.int .i64 (j : Int), .int .i64 (k : Int), .int .u64 (a : Int)] 119).below hb4)
        have hdd1 : w4.drew.cell? ⟨c1, 0, none⟩ = some (.pointer (some ⟨b, 0, none⟩)) := (HB4.out.cell (p := ⟨c1, 0, none⟩) hc1l).trans d1
        have hdd2 : w4.drew.cell? ⟨c2, 0, none⟩ = some (.int .i64 (j : Int)) := (HB4.out.cell (p := ⟨c2, 0, none⟩) hc2l).trans d2
        have ed1 : w4.cell? ⟨c1, 0, none⟩ = some (.pointer (some ⟨b, 0, none⟩)) := hdd1
        have ed2 : w4.cell? ⟨c2, 0, none⟩ = some (.int .i64 (j : Int)) := hdd2
        clear hb4 p0 p1 p2 p3 p4 p5 p6 p7 p8 x0 x1 x2 x3 x4 x5 x6 x7 x8 d1 d2
        obtain ⟨y0, y1, y2⟩ := bx3 HY4.out
        have hl4 := HX4.out.lt
        have hly := HY4.out.lt
        have hb4 := HR4.out.lt
        have r2 : w4.cell? ⟨b, 4, none⟩ = some (.func (.func 60) #[.pointer (some ⟨b, 0, none⟩)] #[]) := HR4.out.bx.c 4 rfl
        have r3 : w4.cell? ⟨b, 5, none⟩ = some (.func (.func 61) #[.pointer (some ⟨b, 0, none⟩)] #[]) := HR4.out.bx.c 5 rfl
        have HP := Lib.hid (strp_calls (W := w4.drew) j k a hm HK.out hrl.2.2.1 (by omega) HR4.out.drew)
        cases hR : strR j a r with
        | error e =>
          rw [hR] at HP
          unfold AnsP at HP
          simp only at HP
          rcases hm with rfl | rfl
          all_goals
            go_wp2_with fail
            go_region_with (refine HP.out.mono ?_; rintro o w5 ⟨hg5, rfl, r5, hr5⟩; have HX5 := Lib.hid (gr_bx (show Nx w4.drew _ _ _ from HX4.out) hg5 (fun e => by have := Option.some.inj e; omega)); obtain ⟨p0, p1, p2, p3, p4, p5, p6, p7, p8⟩ := (show Nx w5 W.heap.size zH (.slice none 0 0) from HX5.out).nine; obtain ⟨x0, x1, x2, x3, x4, x5, x6, x7, x8⟩ := nx_f (show Nx w5 W.heap.size zH (.slice none 0 0) from HX5.out); have l5 := (show Nx w5 W.heap.size zH (.slice none 0 0) from HX5.out).lt; simp only [zH, Hd.cells, Int.cast_ofNat_Int])
            all_goals
              go_wp2
              obtain ⟨W6, hW6⟩ : ∃ W6, W6 = setN w5 W.heap.size zH (.slice none 0 0) := ⟨_, rfl⟩
              have hX6 : Nx W6 W.heap.size zH (.slice none 0 0) := by rw [hW6]; exact (show Nx w5 W.heap.size zH (.slice none 0 0) from HX5.out).setN _ _
              have hg6 : W.grownBy W6 (some b) := by rw [hW6]; exact gr_new (gr_trans (gr_drew HG4.out) hg5) (gr_setN _ _ _ _) (by omega)
              have hR6 : Rd w0 b r5 wn W6 := by rw [hW6]; exact hr5.other (gr_setN _ _ _ _) (by have := H.out.base; omega) (by omega)
              simp only [setN, zH, Int.cast_ofNat_Int] at hW6
              rw [← hW6]
              clear hW6
              refine bodyPost_ret (res_ct Tryz.results190 _ _ W.heap.size _ _ rfl rfl (ldNd hX6)) rfl ?_
              show AnsP w0 b wn W (strR _ a r) _ _
              rw [hR]
              exact ⟨hg6, rfl, _, hR6⟩
        | ok y =>
          obtain ⟨⟨h', k'⟩, r'⟩ := y
          rw [hR] at HP
          unfold AnsP at HP
          simp only at HP
          rcases hm with rfl | rfl
          all_goals
            go_wp2_with fail
            go_region_with (refine HP.out.mono ?_; rintro o w5 ⟨hg5, v5, rfl, hr5, hk5, hu5⟩; obtain ⟨A5, c5, rfl, _, _, _⟩ := hk5.form; have HX5 := Lib.hid (gr_bx (show Nx w4.drew _ _ _ from HX4.out) hg5 (fun e => by have := Option.some.inj e; omega)); obtain ⟨p0, p1, p2, p3, p4, p5, p6, p7, p8⟩ := (show Nx w5 W.heap.size zH (.slice none 0 0) from HX5.out).nine; obtain ⟨x0, x1, x2, x3, x4, x5, x6, x7, x8⟩ := nx_f (show Nx w5 W.heap.size zH (.slice none 0 0) from HX5.out); have l5 := (show Nx w5 W.heap.size zH (.slice none 0 0) from HX5.out).lt; simp only [Hd.cells])
            all_goals
              go_wp2
              obtain ⟨W6, hW6⟩ : ∃ W6, W6 = setN w5 W.heap.size h' (.slice A5 k'.len c5) := ⟨_, rfl⟩
              have hX6 : Nx W6 W.heap.size h' (.slice A5 k'.len c5) := by rw [hW6]; exact (show Nx w5 W.heap.size zH (.slice none 0 0) from HX5.out).setN _ _
              have hg6 : W.grownBy W6 (some b) := by rw [hW6]; exact gr_new (gr_trans (gr_drew HG4.out) hg5) (gr_setN _ _ _ _) (by omega)
              have hR6 : Rd w0 b r' wn W6 := by rw [hW6]; exact hr5.other (gr_setN _ _ _ _) (by have := H.out.base; omega) (by omega)
              have hK6 : Kd (fun B => W.heap.size + 1 ≤ B) W6 (.slice A5 k'.len c5) k' := by
                rw [hW6]
                exact (hk5.mono (Q := fun B => W.heap.size + 1 ≤ B) fun B h1 _ => by have h2 : w4.heap.size ≤ B := h1; omega).kept (by rw [size_setN]; exact Nat.le_refl _) (fun B h1 h2 => setN_other (by omega))
              simp only [setN] at hW6
              rw [← hW6]
              clear hW6
              refine bodyPost_ret (res_ct Tryz.results190 _ _ W.heap.size _ _ rfl rfl (ldNd hX6)) rfl ?_
              show AnsP w0 b wn W (strR _ a r) _ _
              rw [hR]
              exact ⟨hg6, _, rfl, hR6, hK6.mono fun B h1 _ => by omega, hu5⟩
    · have hne : ((j : Int) != (m : Int)) = true := by simp; omega
      rw [if_pos (.inl hjm)]
      go_enter Tryz.func190, Tryz.ntmps190
      go_wp2_with fail
      refine (HH.out _ (H.out.alloc _)).mono ?_
      rintro o w3 ⟨hg3, rfl, hr3⟩
      have HX := Lib.hid (gr_bx (Bx.new W (zH.cells (.slice none 0 0)) 28) hg3 (fun e => by have := Option.some.inj e; omega))
      have HG3 := Lib.hid (gr_trans (gr_alloc W (.cells (zH.cells (.slice none 0 0)) 28) (some b)) hg3)
      have hs3 : W.heap.size < w3.heap.size := HX.out.lt
      obtain ⟨p0, p1, p2, p3, p4, p5, p6, p7, p8⟩ := (show Nx w3 W.heap.size zH (.slice none 0 0) from HX.out).nine
      obtain ⟨x0, x1, x2, x3, x4, x5, x6, x7, x8⟩ := nx_f (show Nx w3 W.heap.size zH (.slice none 0 0) from HX.out)
      have HR := Lib.hid hr3
      have d2 : w3.cell? ⟨c2, 0, none⟩ = some (.int .i64 (m : Int)) := (gr_bx (H2.out.alloc _) hg3 (fun e => hc2 (Option.some.inj e))).c 0 rfl
      have hc2l : c2 < w3.heap.size := by omega
      clear hg3 hr3
      go_wp2_with fail
      obtain ⟨W5, hW5⟩ : ∃ W5, W5 = (setN w3 W.heap.size zH (.slice none 0 0)).alloc (.cells #[.int .i64 (j : Int), .int .i64 (k : Int), .int .u64 (a : Int)] 119) := ⟨_, rfl⟩
      have hX5 : Nx W5 W.heap.size zH (.slice none 0 0) := by rw [hW5]; exact ((show Nx w3 W.heap.size zH (.slice none 0 0) from HX.out).setN _ _).alloc _
      have hg5 : W.grownBy W5 (some b) := by rw [hW5]; exact gr_trans (gr_new HG3.out (gr_setN _ _ _ _) (by omega)) (gr_alloc _ _ _)
      have hR5 : Rd w0 b r wn W5 := by rw [hW5]; exact (HR.out.other (gr_setN _ _ _ _) (by have := H.out.base; omega) (by omega)).alloc _
      simp only [setN, zH, Int.cast_ofNat_Int] at hW5
      rw [← hW5]
      clear hW5
      refine bodyPost_ret (res_ct Tryz.results190 _ _ W.heap.size _ _ rfl rfl (ldNd hX5)) rfl ?_
      exact ⟨hg5, rfl, _, hR5⟩
end
end Go.Proofs.YtppapkpceejnkaaGreatDoor
