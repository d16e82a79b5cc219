/- The program's own: item, told its parts. -/
import Derived.Test.YtppapkpceejnkaaGreatDoorZi
import Derived.Deep.RegionHeld3
namespace Go.Proofs.YtppapkpceejnkaaGreatDoor
open Go.RowKit

def partN (j : Nat) : Nat := if j < 2 then 59 else if j = 2 then 60 else if j = 3 then 61 else if j = 4 then 62 else if j = 5 then 63 else if j = 6 then 64 else 65
theorem part_cell (b : Nat) (s : ByteArray) (wn j : Nat) (hj : j < 8) : (rcs b s wn)[2 + j]? = some (.func (.func (partN j)) #[.pointer (some ⟨b, 0, none⟩)] #[]) := by
  have h8 : j = 0 ∨ j = 1 ∨ j = 2 ∨ j = 3 ∨ j = 4 ∨ j = 5 ∨ j = 6 ∨ j = 7 := by omega
  rcases h8 with rfl | rfl | rfl | rfl | rfl | rfl | rfl | rfl <;> rfl
theorem enters_partN (j : Nat) (hj : j < 8) : ∀ args w, (callFunc (partN j) args).run Tryz.prog w = .ok (.enter (partN j) args) w := by
  have h8 : j = 0 ∨ j = 1 ∨ j = 2 ∨ j = 3 ∨ j = 4 ∨ j = 5 ∨ j = 6 ∨ j = 7 := by omega
  rcases h8 with rfl | rfl | rfl | rfl | rfl | rfl | rfl | rfl
  · exact enters_of Tryz.func59 (by kernel_rfl) rfl
  · exact enters_of Tryz.func59 (by kernel_rfl) rfl
  · exact enters_of Tryz.func60 (by kernel_rfl) rfl
  · exact enters_of Tryz.func61 (by kernel_rfl) rfl
  · exact enters_of Tryz.func62 (by kernel_rfl) rfl
  · exact enters_of Tryz.func63 (by kernel_rfl) rfl
  · exact enters_of Tryz.func64 (by kernel_rfl) rfl
  · exact enters_of Tryz.func65 (by kernel_rfl) rfl
theorem nx_off {W : World} {B C i : Nat} {h : Hd} {v u : Value} (hx : Nx W B h v) (hne : B ≠ C) : Nx (W.setCell ⟨C, i, none⟩ u) B h v := Bx.off hx hne
/-- What a part answers, whatever is read. -/
def OutP (w0 : World) (b wn B : Nat) (R : Res (Hd × Fo)) (W' : World) (hh : Hd) (v e : Value) (r : List UInt8) : Prop := Rd w0 b r wn W' ∧ ((∃ k, R = .ok ((hh, k), r) ∧ e = .nilIface ∧ Kd (fun i => B ≤ i) W' v k ∧ hh.u < 18446744073709551616) ∨ ∃ x : Nat, R = .error x ∧ hh = zH ∧ v = .slice none 0 0 ∧ e = fltV (x : Int))
theorem ans_out {w0 W W' : World} {b wn : Nat} {R : Res (Hd × Fo)} {o : Ending} (h : AnsP w0 b wn W R o W') : W.grownBy W' (some b) ∧ ∃ hh A n c e r, o = .returned (.tuple #[.agg (hh.cells (.slice A n c)), e]) ∧ OutP w0 b wn W.heap.size R W' hh (.slice A n c) e r := by
  obtain ⟨hg, h⟩ := h
  refine ⟨hg, ?_⟩
  cases R with
  | error x =>
    obtain ⟨rfl, r, hr⟩ := h
    exact ⟨zH, none, 0, 0, _, r, rfl, hr, .inr ⟨x, rfl, rfl, rfl, rfl⟩⟩
  | ok y =>
    obtain ⟨⟨hh, k⟩, r⟩ := y
    obtain ⟨v, rfl, hr, hk, hu⟩ := h
    obtain ⟨A, c, rfl, _, _, _⟩ := hk.form
    exact ⟨hh, A, k.len, c, _, r, rfl, hr, .inl ⟨k, rfl, rfl, hk, hu⟩⟩
theorem ans_of {w0 W W6 W8 : World} {b wn wn' B : Nat} {R : Res (Hd × Fo)} {hh : Hd} {v e : Value} {r : List UInt8} (h : OutP w0 b wn' B R W6 hh v e r) (hg : W.grownBy W8 (some b)) (hr : Rd w0 b r wn W8) (hB : W.heap.size ≤ B) (hs : W6.heap.size ≤ W8.heap.size) (hb : ∀ i, B ≤ i → i < W6.heap.size → W8.heap[i]? = W6.heap[i]?) :
    AnsP w0 b wn W R (.returned (.tuple #[.agg (hh.cells v), e])) W8 := by
  obtain ⟨_, ⟨k, rfl, rfl, hk, hu⟩ | ⟨x, rfl, rfl, rfl, rfl⟩⟩ := h
  · exact ⟨hg, v, rfl, hr, (hk.kept hs hb).mono fun i h1 _ => Nat.le_trans hB h1, hu⟩
  · exact ⟨hg, rfl, r, hr⟩
section
variable {w0 W : World} {b wn : Nat} {l : List UInt8}
set_option maxRecDepth 100000 in
set_option maxHeartbeats 1000000 in
theorem item_deep (hl : l ≠ []) (h : Rd w0 b l 16 W) : Calls Tryz.prog 36 #[.pointer (some ⟨b, 0, none⟩)] W (AnsP w0 b 16 W (.error 60)) := by
  have H := Lib.hid h
  have c0 := h.c0
  have c1 := h.c1
  have hlW := h.lt
  have hne : l.isEmpty = false := by cases l; exact absurd rfl hl; rfl
  clear h
  go_enter Tryz.func36, Tryz.ntmps36
  go_wp2_with fail
  refine bodyPost_ret (res_ct Tryz.results36 _ _ W.heap.size _ _ rfl rfl (ldNd (h := zH) (v := .slice none 0 0) (Bx.new W _ _))) rfl ?_
  exact ⟨gr_alloc _ _ _, rfl, _, H.out.alloc _⟩
set_option maxRecDepth 100000 in
set_option maxHeartbeats 1000000 in
theorem item_err (e : Nat) (hT : Tc w0) (hd : wn ≠ 16 ∨ l = []) (hr : rdL l = .error e) (h : Rd w0 b l wn W) : Calls Tryz.prog 36 #[.pointer (some ⟨b, 0, none⟩)] W (AnsP w0 b wn W (.error (hE e))) := by
  have H := Lib.hid h
  have HH := Lib.hid (fun V (hv : Rd w0 b l wn V) => heading_calls hT hv)
  unfold HdP at HH
  rw [hr] at HH
  simp only at HH
  have c0 := h.c0
  have c1 := h.c1
  have hlW := h.lt
  have hcase : (((wn : Int) == 16) = false) ∨ (((wn : Int) == 16) = true ∧ l.isEmpty = true) := by
    by_cases h16 : wn = 16
    · rcases hd with h5 | rfl
      · exact absurd h16 h5
      · exact .inr ⟨by simp; omega, rfl⟩
    · exact .inl (by simp; omega)
  clear h hd
  rcases hcase with h16 | ⟨h16, hne⟩
  all_goals
    go_enter Tryz.func36, Tryz.ntmps36
    go_wp2_with fail
    refine (HH.out _ (H.out.alloc _)).mono ?_
    rintro o w3 ⟨hg3, rfl, hr3⟩
    have HX := Lib.hid (gr_bx (Bx.new W (zH.cells (.slice none 0 0)) 28) hg3 (fun e => by have := Option.some.inj e; omega))
    have HG3 := Lib.hid (gr_trans (gr_alloc W (.cells (zH.cells (.slice none 0 0)) 28) (some b)) hg3)
    have hs3 : W.heap.size < w3.heap.size := HX.out.lt
    obtain ⟨p0, p1, p2, p3, p4, p5, p6, p7, p8⟩ := (show Nx w3 W.heap.size zH (.slice none 0 0) from HX.out).nine
    obtain ⟨x0, x1, x2, x3, x4, x5, x6, x7, x8⟩ := nx_f (show Nx w3 W.heap.size zH (.slice none 0 0) from HX.out)
    have HR := Lib.hid hr3
    clear hg3 hr3
    go_wp2_with fail
    obtain ⟨W5, hW5⟩ : ∃ W5, W5 = (setN w3 W.heap.size zH (.slice none 0 0)).alloc (.cells #[.int .i64 0, .int .i64 0, .int .u64 0] 119) := ⟨_, rfl⟩
    have hX5 : Nx W5 W.heap.size zH (.slice none 0 0) := by rw [hW5]; exact ((show Nx w3 W.heap.size zH (.slice none 0 0) from HX.out).setN _ _).alloc _
    have hg5 : W.grownBy W5 (some b) := by rw [hW5]; exact gr_trans (gr_new HG3.out (gr_setN _ _ _ _) (by omega)) (gr_alloc _ _ _)
    have hR5 : Rd w0 b l wn W5 := by rw [hW5]; exact (HR.out.other (gr_setN _ _ _ _) (by have := H.out.base; omega) (by omega)).alloc _
    simp only [setN, zH, Int.cast_ofNat_Int] at hW5
    rw [← hW5]
    clear hW5
    refine bodyPost_ret (res_ct Tryz.results36 _ _ W.heap.size _ _ rfl rfl (ldNd hX5)) rfl ?_
    exact ⟨hg5, rfl, _, hR5⟩
set_option maxRecDepth 100000 in
set_option maxHeartbeats 1000000 in
theorem item_bad (j k a : Nat) (r : List UInt8) (hT : Tc w0) (hd : wn < 16) (hr : rdL l = .ok (j, k, a, r)) (hbg : begB j k a = false) (h : Rd w0 b l wn W) :
    Calls Tryz.prog 36 #[.pointer (some ⟨b, 0, none⟩)] W (AnsP w0 b wn W (.error 110)) := by
  have H := Lib.hid h
  have hrl := rdL_lt hr
  have HH := Lib.hid (fun V (hv : Rd w0 b l wn V) => heading_calls hT hv)
  unfold HdP at HH
  rw [hr] at HH
  simp only at HH
  have HB := Lib.hid (fun V => begins_calls j k a hrl.1 V)
  rw [hbg] at HB
  have c0 := h.c0
  have c1 := h.c1
  have hlW := h.lt
  have h16 : ((wn : Int) == 16) = false := by simp; omega
  clear h hr hT hbg
  go_enter Tryz.func36, Tryz.ntmps36
  go_wp2_with fail
  refine (HH.out _ (H.out.alloc _)).mono ?_
  rintro o w3 ⟨hg3, rfl, hr3⟩
  have HX := Lib.hid (gr_bx (Bx.new W (zH.cells (.slice none 0 0)) 28) hg3 (fun e => by have := Option.some.inj e; omega))
  have HG3 := Lib.hid (gr_trans (gr_alloc W (.cells (zH.cells (.slice none 0 0)) 28) (some b)) hg3)
  have hs3 : W.heap.size < w3.heap.size := HX.out.lt
  have HR := Lib.hid hr3
  clear hg3 hr3
  go_wp2_with fail
  refine (HB.out _).mono ?_
  rintro o w4 ⟨rfl, hb4⟩
  have HX4 := Lib.hid ((HX.out.alloc (.cells #[.int .i64 (j : Int), .int .i64 (k : Int), .int .u64 (a : Int)] 119)).below hb4)
  have HB4 := Lib.hid (below_nx (below_a (Below.refl w3.heap.size w3) (.cells #[.int .i64 (j : Int), .int .i64 (k : Int), .int .u64 (a : Int)] 119)) hb4)
  have HG4 := Lib.hid (gr_trans HG3.out (gr_below HB4.out))
  have HR4 := Lib.hid (HR.out.below HB4.out)
  have HY4 := Lib.hid ((Bx.new w3 #[.int .i64 (j : Int), .int .i64 (k : Int), .int .u64 (a : Int)] 119).below hb4)
  clear hb4 c0 c1
  obtain ⟨p0, p1, p2, p3, p4, p5, p6, p7, p8⟩ := (show Nx w4 W.heap.size zH (.slice none 0 0) from HX4.out).nine
  obtain ⟨x0, x1, x2, x3, x4, x5, x6, x7, x8⟩ := nx_f (show Nx w4 W.heap.size zH (.slice none 0 0) from HX4.out)
  have hl4 := HX4.out.lt
  go_wp2_with fail
  obtain ⟨W5, hW5⟩ : ∃ W5, W5 = setN w4 W.heap.size zH (.slice none 0 0) := ⟨_, rfl⟩
  have hX5 : Nx W5 W.heap.size zH (.slice none 0 0) := by rw [hW5]; exact (show Nx w4 W.heap.size zH (.slice none 0 0) from HX4.out).setN _ _
  have hg5 : W.grownBy W5 (some b) := by rw [hW5]; exact gr_new HG4.out (gr_setN _ _ _ _) (by omega)
  have hR5 : Rd w0 b r wn W5 := by rw [hW5]; exact HR4.out.other (gr_setN _ _ _ _) (by have := H.out.base; omega) (by omega)
  simp only [setN, zH, Int.cast_ofNat_Int] at hW5
  rw [← hW5]
  clear hW5
  refine bodyPost_ret (res_ct Tryz.results36 _ _ W.heap.size _ _ rfl rfl (ldNd hX5)) rfl ?_
  exact ⟨hg5, rfl, _, hR5⟩
set_option maxRecDepth 100000 in
set_option maxHeartbeats 4000000 in
/-- What behind a head is read one deeper is told one higher. -/
theorem item_ok (j k a : Nat) (r : List UInt8) (R : Res (Hd × Fo)) (hT : Tc w0) (hd : wn < 16) (hr : rdL l = .ok (j, k, a, r)) (hbg : begB j k a = true) (h : Rd w0 b l wn W)
    (hP : ∀ V, Rd w0 b r (wn + 1) V → Calls Tryz.prog (partN j) #[.pointer (some ⟨b, 0, none⟩), hdV (j : Int) (k : Int) (a : Int)] V (AnsP w0 b (wn + 1) V R)) :
    Calls Tryz.prog 36 #[.pointer (some ⟨b, 0, none⟩)] W (AnsP w0 b wn W R) := by
  have hef := enters_partN j (rdL_lt hr).1
  have hpc := fun s n => part_cell b s n j (rdL_lt hr).1
  obtain ⟨f, hf⟩ : ∃ f, f = partN j := ⟨_, rfl⟩
  rw [← hf] at hef hpc hP
  have HP := Lib.hid hP
  clear hf hP
  have H := Lib.hid h
  have hrl := rdL_lt hr
  have HH := Lib.hid (fun V (hv : Rd w0 b l wn V) => heading_calls hT hv)
  unfold HdP at HH
  rw [hr] at HH
  simp only at HH
  have HB := Lib.hid (fun V => begins_calls j k a hrl.1 V)
  rw [hbg] at HB
  have c0 := h.c0
  have c1 := h.c1
  have hlW := h.lt
  have h16 : ((wn : Int) == 16) = false := by simp; omega
  clear h hr hT hbg
  go_enter Tryz.func36, Tryz.ntmps36
  go_wp2_with fail
  refine (HH.out _ (H.out.alloc _)).mono ?_
  rintro o w3 ⟨hg3, rfl, hr3⟩
  have HX := Lib.hid (gr_bx (Bx.new W (zH.cells (.slice none 0 0)) 28) hg3 (fun e => by have := Option.some.inj e; omega))
  have HG3 := Lib.hid (gr_trans (gr_alloc W (.cells (zH.cells (.slice none 0 0)) 28) (some b)) hg3)
  have hs3 : W.heap.size < w3.heap.size := HX.out.lt
  have HR := Lib.hid hr3
  clear hg3 hr3
  go_wp2_with fail
  refine (HB.out _).mono ?_
  rintro o w4 ⟨rfl, hb4⟩
  have HX4 := Lib.hid ((HX.out.alloc (.cells #[.int .i64 (j : Int), .int .i64 (k : Int), .int .u64 (a : Int)] 119)).below hb4)
  have HB4 := Lib.hid (below_nx (below_a (Below.refl w3.heap.size w3) (.cells #[.int .i64 (j : Int), .int .i64 (k : Int), .int .u64 (a : Int)] 119)) hb4)
  have HG4 := Lib.hid (gr_trans HG3.out (gr_below HB4.out))
  have HR4 := Lib.hid (HR.out.below HB4.out)
  have HY4 := Lib.hid ((Bx.new w3 #[.int .i64 (j : Int), .int .i64 (k : Int), .int .u64 (a : Int)] 119).below hb4)
  clear hb4 c0 c1
  have d1 := HR4.out.c1
  have g1 := HR4.out.f 1
  have hlb := HR4.out.lt
  go_wp2_with fail
  obtain ⟨w5, hw5⟩ : ∃ w5, w5 = w4.setCell ⟨b, 1, none⟩ (.int .i64 ((wn + 1 : Nat) : Int)) := ⟨_, rfl⟩
  have HR5 : Hid (Rd w0 b r (wn + 1) w5) := Lib.hid (by rw [hw5]; exact HR4.out.setN (wn + 1))
  have HX5 : Hid (Nx w5 W.heap.size zH (.slice none 0 0)) := Lib.hid (by rw [hw5]; exact nx_off HX4.out (by omega))
  have HY5 : Hid (Bx w5 w3.heap.size #[.int .i64 (j : Int), .int .i64 (k : Int), .int .u64 (a : Int)] 119) := Lib.hid (by rw [hw5]; exact HY4.out.off (by omega))
  have HG5 : Hid (W.grownBy w5 (some b)) := Lib.hid (by rw [hw5]; exact gr_trans HG4.out (gr_set _ _ _ _))
  rw [show ((wn + 1 : Nat) : Int) = (wn : Int) + 1 by omega] at hw5
  rw [← hw5]
  clear hw5 d1 g1
  have hj8 : (j : Int) < 8 := by omega
  obtain ⟨y0, y1, y2⟩ := bx3 HY5.out
  have hpc5 : w5.cell? ⟨b, 2 + j, none⟩ = some (.func (.func f) #[.pointer (some ⟨b, 0, none⟩)] #[]) := HR5.out.bx.c (2 + j) (hpc _ _)
  have hlw3 : w3.heap.size < w5.heap.size := HY5.out.lt
  go_wp2_with fail
  refine wp_region_held_drew (S := fun w' => w'.cell? ⟨b, 2 + j, none⟩ = some (.func (.func f) #[.pointer (some ⟨b, 0, none⟩)] #[]) ∧ w'.cell? ⟨w3.heap.size, 0, none⟩ = some (.int .i64 (j : Int)) ∧ w'.cell? ⟨w3.heap.size, 1, none⟩ = some (.int .i64 (k : Int)) ∧ w'.cell? ⟨w3.heap.size, 2, none⟩ = some (.int .u64 (a : Int))) hmxH ⟨hpc5, y0, y1, y2⟩ ?_
  clear y0 y1 y2 hpc5
  obtain ⟨W1, hW1⟩ : ∃ W1, W1 = w5.drew := ⟨_, rfl⟩
  have HR1 : Hid (Rd w0 b r (wn + 1) W1) := Lib.hid (by rw [hW1]; exact HR5.out.drew)
  have HX1 : Hid (Nx W1 W.heap.size zH (.slice none 0 0)) := Lib.hid (by rw [hW1]; exact HX5.out)
  have HY1 : Hid (Bx W1 w3.heap.size #[.int .i64 (j : Int), .int .i64 (k : Int), .int .u64 (a : Int)] 119) := Lib.hid (by rw [hW1]; exact HY5.out)
  have HG1 : Hid (W.grownBy W1 (some b)) := Lib.hid (by rw [hW1]; exact gr_drew HG5.out)
  have hl1 : w3.heap.size < W1.heap.size := HY1.out.lt
  have hbl : b < W1.heap.size := HR1.out.lt
  rw [← hW1]
  clear hW1 HR5 HX5 HY5 HG5 hlw3
  have HS := Lib.hid (fun (V : World) (l' : List UInt8) (hr : Rd w0 b l' (wn + 1) V) (hg : W1.grownBy V (some b)) => (show (fun w' : World => w'.cell? ⟨b, 2 + j, none⟩ = some (.func (.func f) #[.pointer (some ⟨b, 0, none⟩)] #[]) ∧ w'.cell? ⟨w3.heap.size, 0, none⟩ = some (.int .i64 (j : Int)) ∧ w'.cell? ⟨w3.heap.size, 1, none⟩ = some (.int .i64 (k : Int)) ∧ w'.cell? ⟨w3.heap.size, 2, none⟩ = some (.int .u64 (a : Int))) V from ⟨hr.bx.c (2 + j) (hpc _ _), bx3 (gr_bx HY1.out hg (fun e => by have := Option.some.inj e; omega))⟩))
  clear hpc
  intro hHeld
  refine wpAnyH_take (i := 0) (v := .pointer (some ⟨b, 0, none⟩)) rfl (by kernel_rfl) (by kernel_rfl) (by kernel_rfl) (fun _ _ _ h => h) (Or.inl ⟨by rfl, by rintro w ⟨h0, h1, h2, h3⟩; go_simp⟩) hHeld ?_
  refine wpAnyH_take (i := 1) (v := .pointer (some ⟨w3.heap.size, 0, none⟩)) rfl (by kernel_rfl) (by kernel_rfl) (by kernel_rfl) (fun _ _ _ h => h) (Or.inl ⟨by rfl, by rintro w ⟨h0, h1, h2, h3⟩; go_simp⟩) hHeld ?_
  refine wpAnyH_take (i := 2) (v := .int .i64 (j : Int)) rfl (by kernel_rfl) (by kernel_rfl) (by kernel_rfl) (fun _ _ _ h => h) (Or.inl ⟨by rfl, by rintro w ⟨h0, h1, h2, h3⟩; go_simp⟩) hHeld ?_
  refine wpAnyH_take (i := 3) (v := .pointer (some ⟨b, 0, none⟩)) rfl (by kernel_rfl) (by kernel_rfl) (by kernel_rfl) (fun _ _ _ h => h) (Or.inl ⟨by rfl, by rintro w ⟨h0, h1, h2, h3⟩; go_simp⟩) hHeld ?_
  refine wpAnyH_take (i := 4) (v := .pointer (some ⟨b, 2, none⟩)) rfl (by kernel_rfl) (by kernel_rfl) (by kernel_rfl) (fun _ _ _ h => h) (Or.inl ⟨by rfl, by rintro w ⟨h0, h1, h2, h3⟩; go_simp⟩) hHeld ?_
  refine wpAnyH_take (i := 5) (v := .pointer (some ⟨b, 2 + j, none⟩)) rfl (by kernel_rfl) (by kernel_rfl) (by kernel_rfl) (fun _ _ _ h => h) (Or.inl ⟨by rfl, by rintro w ⟨h0, h1, h2, h3⟩; go_simp⟩) hHeld ?_
  refine wpAnyH_take (i := 6) (v := .func (.func f) #[.pointer (some ⟨b, 0, none⟩)] #[]) rfl (by kernel_rfl) (by kernel_rfl) (by kernel_rfl) (fun _ _ _ h => h) (Or.inl ⟨by rfl, by rintro w ⟨h0, h1, h2, h3⟩; go_simp⟩) hHeld ?_
  refine wpAnyH_take (i := 7) (v := .agg #[.int .i64 (j : Int), .int .i64 (k : Int), .int .u64 (a : Int)]) rfl (by kernel_rfl) (by kernel_rfl) (by kernel_rfl) (fun _ _ _ h => h) (Or.inl ⟨by rfl, by rintro w ⟨h0, h1, h2, h3⟩; go_simp⟩) hHeld ?_
  refine wpAnyH_ready (rs := [8, 12]) (by kernel_rfl) (by simp) ?_
  refine AllReadyH.cons rfl (fun K hK => ?_) (AllReadyH.cons rfl (fun K hK => ?_) AllReadyH.nil)
  · go_simp
    refine (HP.out _ HR1.out).mono ?_
    rintro o w6 hans
    obtain ⟨hg6, hh, A, n, c, e, r6, rfl, hout⟩ := ans_out hans
    have HO := Lib.hid hout
    have HG6 := Lib.hid hg6
    clear hans hg6 hout
    simp only [Hd.cells]
    refine hK.out _ _ (HS.out _ _ HO.out.1 HG6.out) (fun hHeld => ?_)
    clear hK K
    refine wpAnyH_take (i := 9) (v := .tuple #[.agg #[.int .i64 hh.kind, .bool hh.b, .bool hh.neg, .string hh.dig, .int .i64 hh.exp, .int .u64 (hh.u : Int), .int .i64 hh.w, .string hh.s, .slice A n c], e]) rfl (by kernel_rfl) (by kernel_rfl) (by kernel_rfl) (fun _ _ _ h => h) (Or.inl ⟨by rfl, by rintro w ⟨h0, h1, h2, h3⟩; go_simp⟩) hHeld ?_
    refine wpAnyH_take (i := 10) (v := .agg #[.int .i64 hh.kind, .bool hh.b, .bool hh.neg, .string hh.dig, .int .i64 hh.exp, .int .u64 (hh.u : Int), .int .i64 hh.w, .string hh.s, .slice A n c]) rfl (by kernel_rfl) (by kernel_rfl) (by kernel_rfl) (fun _ _ _ h => h) (Or.inl ⟨by rfl, by rintro w ⟨h0, h1, h2, h3⟩; go_simp⟩) hHeld ?_
    refine wpAnyH_take (i := 11) (v := e) rfl (by kernel_rfl) (by kernel_rfl) (by kernel_rfl) (fun _ _ _ h => h) (Or.inl ⟨by rfl, by rintro w ⟨h0, h1, h2, h3⟩; go_simp⟩) hHeld ?_
    refine wpAnyH_ready (rs := [12]) (by kernel_rfl) (by simp) ?_
    refine AllReadyH.cons rfl (fun K hK => ?_) AllReadyH.nil
    go_simp
    refine hK.out _ _ (HS.out _ _ (HO.out.1.alloc _) (gr_trans HG6.out (gr_alloc _ _ _))) (fun hHeld => ?_)
    clear hK K
    have hs6 : W1.heap.size ≤ w6.heap.size := HG6.out.size
    refine wpAnyH_ready (rs := [13]) (by kernel_rfl) (by simp) ?_
    refine AllReadyH.cons rfl (fun K hK => ?_) AllReadyH.nil
    go_simp
    refine hK.out _ _ (HS.out _ _ (HO.out.1.alloc _) (gr_trans HG6.out (gr_alloc _ _ _))) (fun hHeld => ?_)
    clear hK K
    refine wpAnyH_ready (rs := [14]) (by kernel_rfl) (by simp) ?_
    refine AllReadyH.cons rfl (fun K hK => ?_) AllReadyH.nil
    go_simp
    refine hK.out _ _ hHeld (fun hHeld => ?_)
    clear hK K
    refine wpAnyH_done (by kernel_rfl) ?_ _
    clear hHeld HS
    have HX6 := Lib.hid (gr_bx HX1.out HG6.out (fun e => by have := Option.some.inj e; omega))
    have d1 := HO.out.1.c1
    have g1 := HO.out.1.f 1
    have hb6 := HO.out.1.lt
    have l6 := HX6.out.lt
    obtain ⟨p0, p1, p2, p3, p4, p5, p6, p7, p8⟩ := (show Nx w6 W.heap.size zH (.slice none 0 0) from HX6.out).nine
    obtain ⟨x0, x1, x2, x3, x4, x5, x6, x7, x8⟩ := nx_f (show Nx w6 W.heap.size zH (.slice none 0 0) from HX6.out)
    have hne1 : W.heap.size ≠ b := by omega
    have hne2 : b ≠ W.heap.size := by omega
    go_wp2_with fail
    obtain ⟨W5, hW5⟩ : ∃ W5, W5 = (setN (w6.setCell ⟨b, 1, none⟩ (.int .i64 (wn : Int))) W.heap.size hh (.slice A n c)).alloc (.cells (hh.cells (.slice A n c)) 28) := ⟨_, rfl⟩
    have hX5 : Nx W5 W.heap.size hh (.slice A n c) := by rw [hW5]; exact ((nx_off HX6.out hne1).setN _ _).alloc _
    have hg5 : W.grownBy W5 (some b) := by rw [hW5]; exact gr_trans (gr_new (gr_trans (gr_trans HG1.out HG6.out) (gr_set _ _ _ _)) (gr_setN _ _ _ _) (Nat.le_refl _)) (gr_alloc _ _ _)
    have hR5 : Rd w0 b r6 wn W5 := by rw [hW5]; exact ((HO.out.1.setN wn).other (gr_setN _ _ _ _) (by have := H.out.base; omega) hne1).alloc _
    have hs5 : w6.heap.size ≤ W5.heap.size := by rw [hW5]; simp only [World.size_alloc, World.size_setCell]; omega
    have hb5 : ∀ i, W1.heap.size ≤ i → i < w6.heap.size → W5.heap[i]? = w6.heap[i]? := fun i h1 h2 => by
      rw [hW5]
      refine (Below.heap_alloc _ _ i (by rw [size_setN, World.size_setCell]; exact h2)).trans ((setN_other (by omega)).trans ?_)
      exact heap_setCell_other _ ⟨b, 1, none⟩ i _ (show i ≠ b by omega)
    simp only [setN, Hd.cells] at hW5
    rw [← hW5]
    clear hW5
    refine bodyPost_ret (res_ct Tryz.results36 _ _ W.heap.size _ _ rfl rfl (ldNd hX5)) rfl ?_
    exact ans_of HO.out hg5 hR5 (by omega) hs5 hb5
  · go_simp
    obtain ⟨W2, hW2⟩ : ∃ W2, W2 = W1.alloc (.cells #[.int .i64 0, .bool false, .bool false, .string ⟨#[]⟩, .int .i64 0, .int .u64 0, .int .i64 0, .string ⟨#[]⟩, .slice none 0 0] 28) := ⟨_, rfl⟩
    have HT2 : Hid (Nx W2 W1.heap.size zH (.slice none 0 0)) := Lib.hid (by rw [hW2]; exact Bx.new W1 _ _)
    have HR2 : Hid (Rd w0 b r (wn + 1) W2) := Lib.hid (by rw [hW2]; exact HR1.out.alloc _)
    have HG2 : Hid (W1.grownBy W2 (some b)) := Lib.hid (by rw [hW2]; exact gr_alloc _ _ _)
    have HX2 : Hid (Nx W2 W.heap.size zH (.slice none 0 0)) := Lib.hid (by rw [hW2]; exact HX1.out.alloc _)
    have hs2 : W2.heap.size = W1.heap.size + 1 := by rw [hW2]; simp
    rw [← hW2]
    clear hW2
    refine hK.out _ _ (HS.out _ _ HR2.out HG2.out) (fun hHeld => ?_)
    clear hK K
    refine wpAnyH_ready (rs := [8]) (by kernel_rfl) (by simp) ?_
    refine AllReadyH.cons rfl (fun K hK => ?_) AllReadyH.nil
    go_simp
    refine (HP.out _ HR2.out).mono ?_
    rintro o w6 hans
    obtain ⟨hg6, hh, A, n, c, e, r6, rfl, hout⟩ := ans_out hans
    have HO := Lib.hid hout
    have HG6 := Lib.hid hg6
    clear hans hg6 hout
    simp only [Hd.cells]
    refine hK.out _ _ (HS.out _ _ HO.out.1 (gr_trans HG2.out HG6.out)) (fun hHeld => ?_)
    clear hK K
    refine wpAnyH_take (i := 9) (v := .tuple #[.agg #[.int .i64 hh.kind, .bool hh.b, .bool hh.neg, .string hh.dig, .int .i64 hh.exp, .int .u64 (hh.u : Int), .int .i64 hh.w, .string hh.s, .slice A n c], e]) rfl (by kernel_rfl) (by kernel_rfl) (by kernel_rfl) (fun _ _ _ h => h) (Or.inl ⟨by rfl, by rintro w ⟨h0, h1, h2, h3⟩; go_simp⟩) hHeld ?_
    refine wpAnyH_take (i := 10) (v := .agg #[.int .i64 hh.kind, .bool hh.b, .bool hh.neg, .string hh.dig, .int .i64 hh.exp, .int .u64 (hh.u : Int), .int .i64 hh.w, .string hh.s, .slice A n c]) rfl (by kernel_rfl) (by kernel_rfl) (by kernel_rfl) (fun _ _ _ h => h) (Or.inl ⟨by rfl, by rintro w ⟨h0, h1, h2, h3⟩; go_simp⟩) hHeld ?_
    refine wpAnyH_take (i := 11) (v := e) rfl (by kernel_rfl) (by kernel_rfl) (by kernel_rfl) (fun _ _ _ h => h) (Or.inl ⟨by rfl, by rintro w ⟨h0, h1, h2, h3⟩; go_simp⟩) hHeld ?_
    have HT6 := Lib.hid (gr_bx HT2.out HG6.out (fun e => by have := Option.some.inj e; omega))
    have HX6 := Lib.hid (gr_bx HX2.out HG6.out (fun e => by have := Option.some.inj e; omega))
    obtain ⟨q0, q1, q2, q3, q4, q5, q6, q7, q8⟩ := (show Nx w6 W1.heap.size zH (.slice none 0 0) from HT6.out).nine
    obtain ⟨z0, z1, z2, z3, z4, z5, z6, z7, z8⟩ := nx_f (show Nx w6 W1.heap.size zH (.slice none 0 0) from HT6.out)
    have hs6 : W1.heap.size < w6.heap.size := HT6.out.lt
    refine wpAnyH_ready (rs := [13]) (by kernel_rfl) (by simp) ?_
    refine AllReadyH.cons rfl (fun K hK => ?_) AllReadyH.nil
    go_simp
    clear q0 q1 q2 q3 q4 q5 q6 q7 q8 z0 z1 z2 z3 z4 z5 z6 z7 z8
    obtain ⟨w7, hw7⟩ : ∃ w7, w7 = setN w6 W1.heap.size hh (.slice A n c) := ⟨_, rfl⟩
    have HN7 := Lib.hid (show Nx w7 W1.heap.size hh (.slice A n c) from by rw [hw7]; exact (show Nx w6 W1.heap.size zH (.slice none 0 0) from HT6.out).setN _ _)
    have HX7 := Lib.hid (show Nx w7 W.heap.size zH (.slice none 0 0) from by rw [hw7]; exact (setN_other (by omega)).trans HX6.out)
    have HR7 := Lib.hid (show Rd w0 b r6 (wn + 1) w7 from by rw [hw7]; exact HO.out.1.other (gr_setN _ _ _ _) (by have := H.out.base; omega) (by omega))
    have HG7 := Lib.hid (show W1.grownBy w7 (some b) from by rw [hw7]; exact gr_new (gr_trans HG2.out HG6.out) (gr_setN _ _ _ _) (Nat.le_refl _))
    have hb7 : ∀ i, W2.heap.size ≤ i → w7.heap[i]? = w6.heap[i]? := fun i h1 => by rw [hw7]; exact setN_other (by omega)
    have hs7 : w7.heap.size = w6.heap.size := by rw [hw7, size_setN]
    simp only [setN] at hw7
    rw [← hw7]
    clear hw7
    refine hK.out _ _ (HS.out _ _ HR7.out HG7.out) (fun hHeld => ?_)
    clear hK K
    refine wpAnyH_ready (rs := [14]) (by kernel_rfl) (by simp) ?_
    refine AllReadyH.cons rfl (fun K hK => ?_) AllReadyH.nil
    go_simp
    refine hK.out _ _ hHeld (fun hHeld => ?_)
    clear hK K
    refine wpAnyH_done (by kernel_rfl) ?_ _
    clear hHeld HS HT6 HX6
    have d1 := HR7.out.c1
    have g1 := HR7.out.f 1
    have hb6 := HR7.out.lt
    have l6 := HX7.out.lt
    have l7 : W1.heap.size < w7.heap.size := HN7.out.lt
    obtain ⟨p0, p1, p2, p3, p4, p5, p6, p7, p8⟩ := (show Nx w7 W.heap.size zH (.slice none 0 0) from HX7.out).nine
    obtain ⟨x0, x1, x2, x3, x4, x5, x6, x7, x8⟩ := nx_f (show Nx w7 W.heap.size zH (.slice none 0 0) from HX7.out)
    obtain ⟨q0, q1, q2, q3, q4, q5, q6, q7, q8⟩ := HN7.out.nine
    have hne1 : W.heap.size ≠ b := by omega
    have hne2 : b ≠ W.heap.size := by omega
    have hne3 : W1.heap.size ≠ b := by omega
    have hne4 : b ≠ W1.heap.size := by omega
    have hne5 : W1.heap.size ≠ W.heap.size := by omega
    have hne6 : W.heap.size ≠ W1.heap.size := by omega
    go_wp2_with fail
    obtain ⟨W5, hW5⟩ : ∃ W5, W5 = setN (w7.setCell ⟨b, 1, none⟩ (.int .i64 (wn : Int))) W.heap.size hh (.slice A n c) := ⟨_, rfl⟩
    have hX5 : Nx W5 W.heap.size hh (.slice A n c) := by rw [hW5]; exact (nx_off HX7.out hne1).setN _ _
    have hg5 : W.grownBy W5 (some b) := by rw [hW5]; exact gr_new (gr_trans (gr_trans HG1.out HG7.out) (gr_set _ _ _ _)) (gr_setN _ _ _ _) (Nat.le_refl _)
    have hR5 : Rd w0 b r6 wn W5 := by rw [hW5]; exact (HR7.out.setN wn).other (gr_setN _ _ _ _) (by have := H.out.base; omega) hne1
    have hs5 : w6.heap.size ≤ W5.heap.size := by rw [hW5]; simp only [World.size_setCell]; omega
    have hb5 : ∀ i, W2.heap.size ≤ i → i < w6.heap.size → W5.heap[i]? = w6.heap[i]? := fun i h1 h2 => by
      rw [hW5]
      refine (setN_other (by omega)).trans (Eq.trans ?_ (hb7 i h1))
      exact heap_setCell_other _ ⟨b, 1, none⟩ i _ (show i ≠ b by omega)
    simp only [setN] at hW5
    rw [← hW5]
    clear hW5
    refine bodyPost_ret (res_ct Tryz.results36 _ _ W.heap.size _ _ rfl rfl (ldNd hX5)) rfl ?_
    exact ans_of HO.out hg5 hR5 (by omega) hs5 hb5
end
end Go.Proofs.YtppapkpceejnkaaGreatDoor
