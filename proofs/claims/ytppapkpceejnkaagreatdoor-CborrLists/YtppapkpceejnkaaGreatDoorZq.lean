/- The program's own: document. The law's own: cut, shown. The law CborrFits. -/
import Derived.Test.YtppapkpceejnkaaGreatDoorZp
namespace Go.Proofs.YtppapkpceejnkaaGreatDoor
open Go.RowKit

theorem item_deep16 {l : List UInt8} {h : Hd} {k : Fo} {r : List UInt8} (hr : itC 1 l = .ok ((h, k), r)) : k.deep < 1000 := by
  have := ((shift FC tgC _).1 1 l (h, k) r hr).1
  simp only at this
  omega
theorem chk_cases (n : Int) (h : Hd) (k : Fo) : chk n h k = 0 ∨ chk n h k = 60 ∨ chk n h k = 61 := by
  unfold chk
  split
  · split
    · exact .inl rfl
    · exact .inr (.inr rfl)
  · exact .inr (.inl rfl)
set_option maxRecDepth 100000 in
set_option maxHeartbeats 2000000 in
theorem document_long (l : List UInt8) (h4 : 4000 < l.length) (W : World) : Calls Tryz.prog 30 #[.string ⟨l.toArray⟩] W (DocP W (.error 81)) := by
  have hsz : (⟨l.toArray⟩ : ByteArray).size = l.length := size_l l
  have h5 : decide (4000 < (l.length : Int)) = true := by simp; omega
  go_enter Tryz.func30, Tryz.ntmps30
  go_wp2_with fail
  refine bodyPost_ret (res_ct Tryz.results30 _ _ W.heap.size _ _ rfl rfl (ldNd (h := zH) (v := .slice none 0 0) (Bx.new W _ _))) rfl ?_
  exact ⟨below_a (Below.refl _ _) _, rfl⟩
set_option maxRecDepth 100000 in
set_option maxHeartbeats 4000000 in
theorem document_short (l : List UInt8) (h4 : ¬ 4000 < l.length) (W : World) (hT : Tc W) : Calls Tryz.prog 30 #[.string ⟨l.toArray⟩] W (DocP W (docR l)) := by
  have HT := Lib.hid hT
  have hsz : (⟨l.toArray⟩ : ByteArray).size = l.length := size_l l
  have h5 : decide (4000 < (l.length : Int)) = false := by simp; omega
  rw [docR, if_neg h4]
  obtain ⟨R, hR⟩ : ∃ R, R = itC 1 l := ⟨_, rfl⟩
  rw [← hR]
  have HRR := Lib.hid hR
  clear hT hR
  go_enter Tryz.func30, Tryz.ntmps30
  go_wp2_with fail
  refine (reader_calls l _).mono ?_
  rintro o w2 ⟨rfl, hr2⟩
  rw [World.size_alloc] at hr2
  have HR2 := Lib.hid hr2
  clear hr2
  simp only [World.size_alloc]
  go_wp2_with fail
  refine (item_calls (w0 := W.alloc (.cells (zH.cells (.slice none 0 0)) 28)) (HT.out.below (below_a (Below.refl _ _) _)) _ l 0 w2 (Nat.lt_succ_self _) (by omega) (by omega) HR2.out).mono ?_
  rintro o w3 ⟨hg3, hm⟩
  rw [show 0 + 1 = 1 from rfl, ← HRR.out] at hm
  cases R with
  | error e =>
    obtain ⟨rfl, r, hr⟩ := hm
    have HB3 := Lib.hid (below_nx (below_a (Below.refl W.heap.size W) (.cells (zH.cells (.slice none 0 0)) 28)) hr.hw)
    have HX := Lib.hid (show Nx w3 W.heap.size zH (.slice none 0 0) from (Bx.new W (zH.cells (.slice none 0 0)) 28).below hr.hw)
    have hs3 := HX.out.lt
    obtain ⟨p0, p1, p2, p3, p4, p5, p6, p7, p8⟩ := HX.out.nine
    obtain ⟨x0, x1, x2, x3, x4, x5, x6, x7, x8⟩ := nx_f HX.out
    clear hg3 hr
    simp only [zH, Hd.cells, Int.cast_ofNat_Int]
    go_wp2_with fail
    obtain ⟨W5, hW5⟩ : ∃ W5, W5 = (setN w3 W.heap.size zH (.slice none 0 0)).alloc (.cells (zH.cells (.slice none 0 0)) 28) := ⟨_, rfl⟩
    have hX6 : Nx W5 W.heap.size zH (.slice none 0 0) := by rw [hW5]; exact (Nx.setN HX.out _ _).alloc _
    have hB6 : Below W.heap.size W W5 := by rw [hW5]; exact below_a (Below.grown HB3.out (gr_setN _ _ _ _) HB3.out.size (fun k e => by cases e; exact Nat.le_refl _)) _
    simp only [setN, zH, Hd.cells, Int.cast_ofNat_Int] at hW5
    rw [← hW5]
    clear hW5
    refine bodyPost_ret (res_ct Tryz.results30 _ _ W.heap.size _ _ rfl rfl (ldNd hX6)) rfl ?_
    exact ⟨hB6, rfl⟩
  | ok y =>
    obtain ⟨⟨h', k'⟩, r⟩ := y
    obtain ⟨v', rfl, hr, hk', hu'⟩ := hm
    obtain ⟨A', c', rfl, _, _, _⟩ := hk'.form
    have HDp := Lib.hid (item_deep16 HRR.out.symm)
    have HGl := Lib.hid (allGl_item HRR.out.symm (by omega))
    have HR := Lib.hid hr
    have HKd := Lib.hid hk'
    have HB3 := Lib.hid (below_nx (below_a (Below.refl W.heap.size W) (.cells (zH.cells (.slice none 0 0)) 28)) hr.hw)
    have HX := Lib.hid (show Nx w3 W.heap.size zH (.slice none 0 0) from (Bx.new W (zH.cells (.slice none 0 0)) 28).below hr.hw)
    clear hg3 hr hk'
    simp only [Hd.cells]
    go_wp2_with fail
    obtain ⟨w4, hw4⟩ : ∃ w4, w4 = w3.alloc (.cells (h'.cells (.slice A' k'.len c')) 28) := ⟨_, rfl⟩
    have hb34 : Below w3.heap.size w3 w4 := by rw [hw4]; exact below_a (Below.refl _ _) _
    have HN4 := Lib.hid (show Nx w4 w3.heap.size h' (.slice A' k'.len c') from by rw [hw4]; exact Bx.new w3 _ _)
    have HX4 := Lib.hid (HX.out.below hb34)
    have HR4 := Lib.hid (HR.out.below hb34)
    have HK4 := Lib.hid (HKd.out.below hb34)
    have HB4 := Lib.hid (below_nx HB3.out hb34)
    simp only [Hd.cells] at hw4
    rw [← hw4]
    clear hw4 hb34 HR HKd HB3 HX
    obtain ⟨E, hE⟩ : ∃ E : Except Nat (Hd × Fo), E = docS h' k' r := ⟨_, rfl⟩
    obtain ⟨n, hn⟩ : ∃ n : Int, n = if r = [] then 0 else 110 := ⟨_, rfl⟩
    obtain ⟨c, hc⟩ : ∃ c : Int, c = chk 2 h' k' := ⟨_, rfl⟩
    have HV : Hid (((if n = 0 then c else n) = 0 ∧ E = .ok (h', k')) ∨ ∃ e : Nat, (if n = 0 then c else n) = (e : Int) ∧ e ≠ 0 ∧ E = .error e) := Lib.hid (by
      rw [hE, hn, hc]
      unfold docS
      by_cases hr : r = []
      · subst hr
        rcases chk_cases 2 h' k' with h | h | h <;> rw [h]
        · exact .inl ⟨rfl, rfl⟩
        · exact .inr ⟨60, rfl, by decide, rfl⟩
        · exact .inr ⟨61, rfl, by decide, rfl⟩
      · rw [if_neg hr]
        exact .inr ⟨110, rfl, by decide, if_pos hr⟩)
    have HNo := Lib.hid (fun V (hV : Rd (W.alloc (.cells (zH.cells (.slice none 0 0)) 28)) (W.heap.size + 1) r 0 V) => nothing_calls hV)
    rw [← hn] at HNo
    have HCk := Lib.hid (fun V (hb : Below w4.heap.size w4 V) => Check_calls 2 k' h' (.slice A' k'.len c') V ((HT.out.below (below_nx HB4.out hb)).1.1) ((HK4.out.below hb).mono (fun _ _ _ => trivial)) hu' HDp.out HGl.out)
    rw [← hc] at HCk
    have HEE := Lib.hid hE
    have hs3 := HN4.out.lt
    have hsX := HX4.out.lt
    refine wp_region_held_drew (S := fun w' => w'.cell? ⟨w3.heap.size, 0, none⟩ = some (.int .i64 h'.kind) ∧ w'.cell? ⟨w3.heap.size, 1, none⟩ = some (.bool h'.b) ∧ w'.cell? ⟨w3.heap.size, 2, none⟩ = some (.bool h'.neg) ∧ w'.cell? ⟨w3.heap.size, 3, none⟩ = some (.string h'.dig) ∧ w'.cell? ⟨w3.heap.size, 4, none⟩ = some (.int .i64 h'.exp) ∧ w'.cell? ⟨w3.heap.size, 5, none⟩ = some (.int .u64 (h'.u : Int)) ∧ w'.cell? ⟨w3.heap.size, 6, none⟩ = some (.int .i64 h'.w) ∧ w'.cell? ⟨w3.heap.size, 7, none⟩ = some (.string h'.s) ∧ w'.cell? ⟨w3.heap.size, 8, none⟩ = some (.slice A' k'.len c')) hmxH (show Nx w4.drew _ _ _ from HN4.out).nine ?_
    have HR1 := Lib.hid HR4.out.drew
    have hb1 : Below w4.heap.size w4 w4.drew := (Below.refl _ _).drew
    obtain ⟨W1, hW1⟩ : ∃ W1, W1 = w4.drew := ⟨_, rfl⟩
    rw [← hW1] at HR1 hb1 ⊢
    have HN1 := Lib.hid (HN4.out.below hb1)
    have HB1 := Lib.hid hb1
    clear hW1 hb1 hE hn hc
    intro hHeld
    refine wpAnyH_take (i := 0) (v := .pointer (some ⟨W.heap.size + 1, 0, none⟩)) rfl (by kernel_rfl) (by kernel_rfl) (by kernel_rfl) (fun _ _ _ h => h) (Or.inl ⟨by rfl, by rintro w ⟨h0, h1, h2, h3, h4, h5, h6, h7, h8⟩; go_simp⟩) hHeld ?_
    refine wpAnyH_take (i := 1) (v := .pointer (some ⟨W.heap.size + 1, 0, none⟩)) rfl (by kernel_rfl) (by kernel_rfl) (by kernel_rfl) (fun _ _ _ h => h) (Or.inl ⟨by rfl, by rintro w ⟨h0, h1, h2, h3, h4, h5, h6, h7, h8⟩; go_simp⟩) hHeld ?_
    refine wpAnyH_take (i := 2) (v := .pointer (some ⟨W.heap.size + 1, 0, none⟩)) rfl (by kernel_rfl) (by kernel_rfl) (by kernel_rfl) (fun _ _ _ h => h) (Or.inl ⟨by rfl, by rintro w ⟨h0, h1, h2, h3, h4, h5, h6, h7, h8⟩; go_simp⟩) hHeld ?_
    refine wpAnyH_take (i := 4) (v := .agg #[.int .i64 h'.kind, .bool h'.b, .bool h'.neg, .string h'.dig, .int .i64 h'.exp, .int .u64 (h'.u : Int), .int .i64 h'.w, .string h'.s, .slice A' k'.len c']) rfl (by kernel_rfl) (by kernel_rfl) (by kernel_rfl) (fun _ _ _ h => h) (Or.inl ⟨by rfl, by rintro w ⟨h0, h1, h2, h3, h4, h5, h6, h7, h8⟩; go_simp⟩) hHeld ?_
    refine wpAnyH_ready (rs := [3]) (by kernel_rfl) (by simp) ?_
    refine AllReadyH.cons rfl (fun K hK => ?_) AllReadyH.nil
    go_simp
    refine (HNo.out _ HR1.out).mono ?_
    rintro o w5 ⟨rfl, rfl⟩
    refine hK.out _ _ hHeld (fun hHeld => ?_)
    clear hK K
    refine wpAnyH_ready (rs := [5]) (by kernel_rfl) (by simp) ?_
    refine AllReadyH.cons rfl (fun K hK => ?_) AllReadyH.nil
    go_simp
    refine (HCk.out _ HB1.out).mono ?_
    rintro o w5 ⟨rfl, hb5⟩
    have HN5 := Lib.hid (HN1.out.below hb5)
    have HB5 := Lib.hid (below_nx HB1.out hb5)
    clear hb5
    refine hK.out _ _ HN5.out.nine (fun hHeld => ?_)
    clear hK K
    refine wpAnyH_ready (rs := [6]) (by kernel_rfl) (by simp) ?_
    refine AllReadyH.cons rfl (fun K hK => ?_) AllReadyH.nil
    go_simp
    obtain ⟨w6, hw6⟩ : ∃ w6, w6 = w5.alloc (.cells #[.int .i64 n, .int .i64 c] 29) := ⟨_, rfl⟩
    have HN6 := Lib.hid (show Nx w6 w3.heap.size h' (.slice A' k'.len c') from by rw [hw6]; exact HN5.out.alloc _)
    have HB6 := Lib.hid (show Below w4.heap.size w4 w6 from by rw [hw6]; exact below_nx HB5.out (below_a (Below.refl _ _) _))
    have HZ6 := Lib.hid (show Bx w6 w5.heap.size #[.int .i64 n, .int .i64 c] 29 from by rw [hw6]; exact Bx.new w5 _ _)
    rw [← hw6]
    clear hw6
    refine hK.out _ _ HN6.out.nine (fun hHeld => ?_)
    clear hK K
    refine wpAnyH_ready (rs := [7]) (by kernel_rfl) (by simp) ?_
    refine AllReadyH.cons rfl (fun K hK => ?_) AllReadyH.nil
    go_simp
    refine (firstOf2_calls n c w5.heap.size w6 HZ6.out).mono ?_
    rintro o w7 ⟨rfl, hb7⟩
    have HN7 := Lib.hid (HN6.out.below hb7)
    have HB7 := Lib.hid (below_nx HB6.out hb7)
    clear hb7
    refine hK.out _ _ HN7.out.nine (fun hHeld => ?_)
    clear hK K
    refine wpAnyH_ready (rs := [8]) (by kernel_rfl) (by simp) ?_
    refine AllReadyH.cons rfl (fun K hK => ?_) AllReadyH.nil
    go_simp
    refine hK.out _ _ hHeld (fun hHeld => ?_)
    clear hK K
    refine wpAnyH_done (by kernel_rfl) ?_ _
    clear hHeld
    obtain ⟨q0, q1, q2, q3, q4, q5, q6, q7, q8⟩ := HN7.out.nine
    have HX7 := Lib.hid (HX4.out.below HB7.out)
    obtain ⟨p0, p1, p2, p3, p4, p5, p6, p7, p8⟩ := HX7.out.nine
    obtain ⟨x0, x1, x2, x3, x4, x5, x6, x7, x8⟩ := nx_f HX7.out
    have hs7 := HX7.out.lt
    have hs8 := HN7.out.lt
    have HBW := Lib.hid (below_nx HB4.out HB7.out)
    rcases HV.out with ⟨hx, hE2⟩ | ⟨e, hx, he, hE2⟩
    · rw [hx, show errV 0 = .nilIface from rfl]
      go_wp2_with fail
      obtain ⟨W5, hW5⟩ : ∃ W5, W5 = setN w7 W.heap.size h' (.slice A' k'.len c') := ⟨_, rfl⟩
      have hX6 : Nx W5 W.heap.size h' (.slice A' k'.len c') := by rw [hW5]; exact Nx.setN HX7.out _ _
      have hB6 : Below W.heap.size W W5 := by rw [hW5]; exact Below.grown HBW.out (gr_setN _ _ _ _) HBW.out.size (fun k e => by cases e; exact Nat.le_refl _)
      have hK6 : Kd (fun B => W.heap.size + 1 ≤ B) W5 (.slice A' k'.len c') k' := by
        rw [hW5]
        exact ((HK4.out.mono (Q := fun B => W.heap.size + 1 ≤ B) fun B h1 _ => by have := HR2.out.lt; omega).below HB7.out).kept (by rw [size_setN]; exact Nat.le_refl _) (fun B h1 h2 => setN_other (by omega))
      simp only [setN] at hW5
      rw [← hW5]
      clear hW5
      refine bodyPost_ret (res_ct Tryz.results30 _ _ W.heap.size _ _ rfl rfl (ldNd hX6)) rfl ?_
      show DocP W (docS h' k' r) _ _
      rw [← HEE.out, hE2]
      exact ⟨hB6, _, rfl, hK6.mono fun B h1 _ => by omega, hu'⟩
    · rw [hx, show errV (e : Int) = fltV (e : Int) from if_neg (by omega)]
      go_wp2_with fail
      obtain ⟨W5, hW5⟩ : ∃ W5, W5 = setN w7 W.heap.size zH (.slice none 0 0) := ⟨_, rfl⟩
      have hX6 : Nx W5 W.heap.size zH (.slice none 0 0) := by rw [hW5]; exact Nx.setN HX7.out _ _
      have hB6 : Below W.heap.size W W5 := by rw [hW5]; exact Below.grown HBW.out (gr_setN _ _ _ _) HBW.out.size (fun k e => by cases e; exact Nat.le_refl _)
      simp only [setN, zH, Int.cast_ofNat_Int] at hW5
      rw [← hW5]
      clear hW5
      refine bodyPost_ret (res_ct Tryz.results30 _ _ W.heap.size _ _ rfl rfl (ldNd hX6)) rfl ?_
      show DocP W (docS h' k' r) _ _
      rw [← HEE.out, hE2]
      exact ⟨hB6, rfl⟩
theorem document_calls (l : List UInt8) (W : World) (hT : Tc W) : Calls Tryz.prog 30 #[.string ⟨l.toArray⟩] W (DocP W (docR l)) := by
  by_cases h4 : 4000 < l.length
  · rw [docR, if_pos h4]
    exact document_long l h4 W
  · exact document_short l h4 W hT
theorem Read_calls11 (l : List UInt8) (W : World) (hT : Tc W) : Calls Tryz.prog 15 #[.string ⟨l.toArray⟩] W (ReadP W (docR l)) := Read_doc l _ W hT (fun V h => document_calls l V h)
end Go.Proofs.YtppapkpceejnkaaGreatDoor
namespace Go.Proofs.YtppapkpceejnkaaGreatDoor
open Go.RowKit

theorem sh1 : docR [191, 97, 97, 1, 255] = .ok (mapC, .cons (strH 3 [97]) .nil (.cons (numH false 1) .nil .nil)) := by kernel_rfl
theorem sh2 : docR [193, 249, 60, 0] = .ok (tgC 1, .cons (floH 16 15360) .nil .nil) := by kernel_rfl
theorem sh3 : docR [130, 1] = .error 100 := by kernel_rfl
set_option maxRecDepth 100000 in
set_option maxHeartbeats 2000000 in
theorem shown11_calls (W : World) (hT : Tc W) : Calls Tryz.prog 14 #[] W fun o W' => o = .returned (.bool true) ∧ Below W.heap.size W W' := by
  have HT := Lib.hid hT
  have H1 := Lib.hid (fun V (hV : Tc V) => Read_calls11 [191, 97, 97, 1, 255] V hV)
  have H2 := Lib.hid (fun V (hV : Tc V) => Read_calls11 [193, 249, 60, 0] V hV)
  have H3 := Lib.hid (fun V (hV : Tc V) => Read_calls11 [130, 1] V hV)
  rw [sh1] at H1
  rw [sh2] at H2
  rw [sh3] at H3
  clear hT
  go_enter Tryz.func14, Tryz.ntmps14
  go_wp2_with fail
  refine (H1.out _ HT.out).mono ?_
  rintro o w1 ⟨hb1, v1, rfl, hk1, _⟩
  obtain ⟨A1, c1, rfl, _, _, _⟩ := hk1.form
  have HB1 := Lib.hid hb1
  clear hb1 hk1
  rw [show (Fo.cons (strH 3 [97]) Fo.nil (Fo.cons (numH false 1) Fo.nil Fo.nil)).len = 2 from rfl]
  simp only [Hd.cells, mapC, Int.cast_ofNat_Int]
  go_wp2_with fail
  obtain ⟨w2, hw2⟩ : ∃ w2, w2 = w1.alloc (.cells (mapC.cells (.slice A1 2 c1)) 28) := ⟨_, rfl⟩
  have HN2 := Lib.hid (show Nx w2 w1.heap.size mapC (.slice A1 2 c1) from by rw [hw2]; exact Bx.new w1 _ _)
  have HB2 := Lib.hid (show Below W.heap.size W w2 from by rw [hw2]; exact below_nx HB1.out (below_a (Below.refl _ _) _))
  simp only [Hd.cells, mapC, Int.cast_ofNat_Int] at hw2
  rw [← hw2]
  clear hw2
  refine (H2.out _ (HT.out.below HB2.out)).mono ?_
  rintro o w3 ⟨hb3, v3, rfl, hk3, _⟩
  obtain ⟨A3, c3, rfl, _, _, _⟩ := hk3.form
  have HB3 := Lib.hid (below_nx HB2.out hb3)
  have HN3 := Lib.hid (HN2.out.below hb3)
  clear hb3 hk3
  rw [show (Fo.cons (floH 16 15360) Fo.nil Fo.nil).len = 1 from rfl]
  simp only [Hd.cells, tgC, Int.cast_ofNat_Int]
  go_wp2_with fail
  obtain ⟨w4, hw4⟩ : ∃ w4, w4 = w3.alloc (.cells ((tgC 1).cells (.slice A3 1 c3)) 28) := ⟨_, rfl⟩
  have HM4 := Lib.hid (show Nx w4 w3.heap.size (tgC 1) (.slice A3 1 c3) from by rw [hw4]; exact Bx.new w3 _ _)
  have HN4 := Lib.hid (show Nx w4 w1.heap.size mapC (.slice A1 2 c1) from by rw [hw4]; exact HN3.out.alloc _)
  have HB4 := Lib.hid (show Below W.heap.size W w4 from by rw [hw4]; exact below_nx HB3.out (below_a (Below.refl _ _) _))
  simp only [Hd.cells, tgC, Int.cast_ofNat_Int] at hw4
  rw [← hw4]
  clear hw4
  refine (H3.out _ (HT.out.below HB4.out)).mono ?_
  rintro o w5 ⟨hb5, rfl⟩
  have HB5 := Lib.hid (below_nx HB4.out hb5)
  obtain ⟨p0, p1, p2, p3, p4, p5, p6, p7, p8⟩ := (HN4.out.below hb5).nine
  obtain ⟨q0, q1, q2, q3, q4, q5, q6, q7, q8⟩ := (HM4.out.below hb5).nine
  have hs5 := (HN4.out.below hb5).lt
  have hs6 := (HM4.out.below hb5).lt
  simp only [mapC, tgC, Int.cast_ofNat_Int] at p0 p8 q0 q5
  clear hb5
  simp only [Hd.cells, zH, Int.cast_ofNat_Int]
  go_wp2
  go_ret
  exact ⟨rfl, below_nx HB5.out (below_a (Below.refl _ _) _)⟩
def cutC (s : ByteArray) : List UInt8 := (s.extract 0 (min (s.size : Int) 4010).toNat).data.toList
theorem cutC_len (s : ByteArray) : (cutC s).length ≤ 4010 := by
  unfold cutC
  rw [Array.length_toList, ByteArray.size_data, ByteArray.size_extract]
  omega
set_option maxRecDepth 100000 in
theorem cut11_calls (s : ByteArray) (W : World) : Calls Tryz.prog 16 #[.string s] W fun o W' => o = .returned (.string ⟨(cutC s).toArray⟩) ∧ W = W' := by
  go_enter Tryz.func16, Tryz.ntmps16
  go_wp2
  go_ret
  exact ⟨rfl, rfl⟩
end Go.Proofs.YtppapkpceejnkaaGreatDoor
namespace Go.Proofs.YtppapkpceejnkaaGreatDoor
open Go.RowKit

theorem docR_ok {l : List UInt8} {h : Hd} {k : Fo} (hd : docR l = .ok (h, k)) : chk 2 h k = 0 ∧ k.deep < 1000 ∧ AllG Gl (.cons h k .nil) ∧ l ≠ [] := by
  unfold docR at hd
  split at hd
  · cases hd
  · cases hr : itC 1 l with
    | error e => rw [hr] at hd; cases hd
    | ok y =>
      obtain ⟨⟨h', k'⟩, r⟩ := y
      rw [hr] at hd
      simp only [docS] at hd
      split at hd
      · cases hd
      · split at hd
        · rename_i hc
          cases hd
          refine ⟨hc, item_deep16 hr, allGl_item hr (by omega), ?_⟩
          rintro rfl
          have : itC 1 [] = .error 100 := by kernel_rfl
          rw [this] at hr
          cases hr
        · cases hd
theorem docR_err {l : List UInt8} {e : Nat} (hd : docR l = .error e) : e ≠ 0 := by
  unfold docR at hd
  split at hd
  · cases hd; decide
  · cases hr : itC 1 l with
    | error e' =>
      rw [hr] at hd
      cases hd
      have := itemL_err hr
      unfold Bad at this
      omega
    | ok y =>
      obtain ⟨⟨h', k'⟩, r⟩ := y
      rw [hr] at hd
      simp only [docS] at hd
      split at hd
      · cases hd; decide
      · split at hd
        · cases hd
        · cases hd
          rcases chk_cases 2 h' k' with h | h | h
          · rename_i h0; exact absurd h h0
          · rw [h]; decide
          · rw [h]; decide
set_option maxRecDepth 100000 in
set_option maxHeartbeats 2000000 in
theorem fits11_calls (s : ByteArray) (W : World) (hT : Tc W) : Calls Tryz.prog 3 #[.string s] W fun o W' => o = .returned (.bool true) ∧ Below W.heap.size W W' := by
  have HT := Lib.hid hT
  have HS := Lib.hid (fun V (hV : Tc V) => shown11_calls V hV)
  have HC := Lib.hid (fun V => cut11_calls s V)
  obtain ⟨l, hl⟩ : ∃ l, l = cutC s := ⟨_, rfl⟩
  rw [← hl] at HC
  have HR := Lib.hid (fun V (hV : Tc V) => Read_calls11 l V hV)
  have hsz : (⟨l.toArray⟩ : ByteArray).size = l.length := size_l l
  obtain ⟨R, hR⟩ : ∃ R, R = docR l := ⟨_, rfl⟩
  rw [← hR] at HR
  clear hT hl
  cases R with
  | error e =>
    have he := docR_err hR.symm
    have he0 : ((e : Int) == 0) = false := by simp; omega
    clear hR
    go_enter Tryz.func3, Tryz.ntmps3
    go_wp2_with fail
    refine (HS.out _ HT.out).mono ?_
    rintro o w1 ⟨rfl, hb1⟩
    have HB1 := Lib.hid hb1
    clear hb1
    go_wp2_with fail
    refine (HC.out _).mono ?_
    rintro o w2 ⟨rfl, rfl⟩
    go_wp2_with fail
    refine (HR.out _ (HT.out.below HB1.out)).mono ?_
    rintro o w3 ⟨hb3, rfl⟩
    have HB3 := Lib.hid (below_nx HB1.out hb3)
    clear hb3
    simp only [Hd.cells, zH, Int.cast_ofNat_Int]
    go_wp2
    go_ret
    exact ⟨rfl, below_nx HB3.out (below_a (Below.refl _ _) _)⟩
  | ok y =>
    obtain ⟨h', k'⟩ := y
    obtain ⟨q1, q2, q3, q4⟩ := docR_ok hR.symm
    have hlp : 0 < l.length := List.length_pos_iff.2 q4
    have hlen : decide (0 < l.length) = true := by simpa using hlp
    have HCk := Lib.hid (fun (v : Value) V (hV : Tc V) (hk : Kd An V v k') (hu : h'.u < 18446744073709551616) => Check_calls 2 k' h' v V hV.1.1 hk hu q2 q3)
    rw [q1] at HCk
    clear hR q1 q2 q3 q4
    go_enter Tryz.func3, Tryz.ntmps3
    go_wp2_with fail
    refine (HS.out _ HT.out).mono ?_
    rintro o w1 ⟨rfl, hb1⟩
    have HB1 := Lib.hid hb1
    clear hb1
    go_wp2_with fail
    refine (HC.out _).mono ?_
    rintro o w2 ⟨rfl, rfl⟩
    go_wp2_with fail
    refine (HR.out _ (HT.out.below HB1.out)).mono ?_
    rintro o w3 ⟨hb3, v3, rfl, hk3, hu3⟩
    obtain ⟨A3, c3, rfl, _, _, _⟩ := hk3.form
    have HB3 := Lib.hid (below_nx HB1.out hb3)
    have HK3 := Lib.hid hk3
    clear hb3 hk3
    simp only [Hd.cells]
    go_wp2_with fail
    obtain ⟨w4, hw4⟩ : ∃ w4, w4 = w3.alloc (.cells (h'.cells (.slice A3 k'.len c3)) 28) := ⟨_, rfl⟩
    have hb34 : Below w3.heap.size w3 w4 := by rw [hw4]; exact below_a (Below.refl _ _) _
    have HB4 := Lib.hid (below_nx HB3.out hb34)
    have HK4 := Lib.hid ((HK3.out.below hb34).mono (Q := An) (fun _ _ _ => trivial))
    simp only [Hd.cells] at hw4
    rw [← hw4]
    clear hw4 hb34
    refine (HCk.out _ _ (HT.out.below HB4.out) HK4.out hu3).mono ?_
    rintro o w5 ⟨rfl, hb5⟩
    have HB5 := Lib.hid (below_nx HB4.out hb5)
    clear hb5
    go_wp2_with fail
    refine (HC.out _).mono ?_
    rintro o w6 ⟨rfl, rfl⟩
    go_wp2
    go_ret
    exact ⟨rfl, HB5.out⟩
end Go.Proofs.YtppapkpceejnkaaGreatDoor
