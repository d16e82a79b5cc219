/- The program's own: number below 0. The program's own: other. -/
import Derived.Test.YtppapkpceejnkaaGreatDoorZg
import Derived.Test.YtppapkpceejnkaaGreatDoorZf
import Derived.BigRegion
namespace Go.Proofs.YtppapkpceejnkaaGreatDoor
open Go.RowKit

theorem bx3 {W : World} {B : Nat} {T : TypeId} {a0 a1 a2 : Value} (h : Bx W B #[a0, a1, a2] T) : W.cell? ⟨B, 0, none⟩ = some a0 ∧ W.cell? ⟨B, 1, none⟩ = some a1 ∧ W.cell? ⟨B, 2, none⟩ = some a2 := ⟨h.c 0 rfl, h.c 1 rfl, h.c 2 rfl⟩
theorem nx_f {W : World} {B : Nat} {h : Hd} {v : Value} (hx : Nx W B h v) : W.frozen? ⟨B, 0, none⟩ = false ∧ W.frozen? ⟨B, 1, none⟩ = false ∧ W.frozen? ⟨B, 2, none⟩ = false ∧ W.frozen? ⟨B, 3, none⟩ = false ∧ W.frozen? ⟨B, 4, none⟩ = false ∧ W.frozen? ⟨B, 5, none⟩ = false ∧ W.frozen? ⟨B, 6, none⟩ = false ∧ W.frozen? ⟨B, 7, none⟩ = false ∧ W.frozen? ⟨B, 8, none⟩ = false :=
  ⟨Bx.f hx 0, Bx.f hx 1, Bx.f hx 2, Bx.f hx 3, Bx.f hx 4, Bx.f hx 5, Bx.f hx 6, Bx.f hx 7, Bx.f hx 8⟩
theorem add_one (a : Nat) (ha : a < 18446744073709551616) (W : World) (hT : Tab W) : Calls Tryz.prog 99 #[.string (decB a), .string ⟨#[49]⟩] W fun o W' => o = .returned (.tuple #[.string (decB (a + 1)), .int .i64 0]) ∧ Below W.heap.size W W' := by
  have hl : ∀ n, n ≤ 18446744073709551616 → n < lim := fun n h => (lim_iff n).1 (by
    have := nDigits_le (n := n) (k := 20) (by decide) (by omega)
    omega)
  have h := Add_yes (decB a) ⟨#[49]⟩ W (isNat_dec (hl a (by omega))) (by rfl) hT
  have e : dv (decB a).data.toList + dv (⟨#[49]⟩ : ByteArray).data.toList = a + 1 := by
    rw [decB_data, dv_dec]
    rfl
  rw [e] at h
  refine h.mono ?_
  rintro o W' ⟨rfl, hb⟩
  refine ⟨?_, hb⟩
  rw [outS, if_pos (hl _ (by omega)), outE, if_pos (hl _ (by omega))]
  rfl
section
variable {w0 W : World} {b wn : Nat} {l : List UInt8}
set_option maxRecDepth 100000 in
set_option maxHeartbeats 1000000 in
theorem number_minus (a k : Nat) (ha : a < 18446744073709551616) (hT : Tc w0) (h : Rd w0 b l wn W) :
    Calls Tryz.prog 59 #[.pointer (some ⟨b, 0, none⟩), hdV 1 (k : Int) (a : Int)] W (AnsP w0 b wn W (.ok ((numH true (a + 1), .nil), l))) := by
  have H := Lib.hid h
  have HT := Lib.hid (h.tc hT).1.2
  have HO := Lib.hid (fun V (hb : Below W.heap.size W V) => pOfInt_calls false a V ha (HT.out.below hb))
  have HN := Lib.hid (fun V (hb : Below W.heap.size W V) => natOf_calls a ha V (HT.out.below hb))
  have HA := Lib.hid (fun V (hb : Below W.heap.size W V) => add_one a ha V (HT.out.below hb))
  have hs20 : (decB (a + 1)).size ≤ 400 := by
    have := nDigits_le (n := a + 1) (k := 20) (by decide) (by omega)
    rw [← size_data, decB_data, Lib.decDigits_length]
    omega
  have HM := Lib.hid (fun V => pMake_calls true (decB (a + 1)) 0 V hs20)
  obtain ⟨R, hR⟩ : ∃ R, R = makeR true (Lib.decDigits (a + 1)) 0 := ⟨_, rfl⟩
  obtain ⟨Q, hQ⟩ : ∃ Q, Q = makeR false (Lib.decDigits a) 0 := ⟨_, rfl⟩
  obtain ⟨D, hD⟩ : ∃ D, D = decB (a + 1) := ⟨_, rfl⟩
  unfold ValP at HO
  unfold DecP at HM
  rw [decB_data, ← hR, ← hD] at HM
  rw [← hQ] at HO
  rw [← hD] at HA
  unfold AnsP numH
  rw [← hR]
  clear h hT hR hQ hD hs20
  go_enter Tryz.func59, Tryz.ntmps59
  go_wp2_with fail
  refine (HO.out _ (below_a (below_a (Below.refl _ _) _) _)).mono ?_
  rintro o w1 ⟨rfl, hb1⟩
  have HX := Lib.hid (((Nx.new (W.alloc (.cells #[.int .i64 1, .int .i64 (k : Int), .int .u64 (a : Int)] 119)) zH (.slice none 0 0))).below hb1)
  have HY := Lib.hid (((Bx.new W #[.int .i64 1, .int .i64 (k : Int), .int .u64 (a : Int)] 119).alloc (.cells (zH.cells (.slice none 0 0)) 28)).below hb1)
  have HB := Lib.hid (below_nx (below_a (below_a (Below.refl W.heap.size W) _) _) hb1)
  rw [World.size_alloc] at HX
  clear hb1
  obtain ⟨c0, c1, c2⟩ := bx3 HY.out
  have hl0 := HY.out.lt
  have hl1 := HX.out.lt
  go_wp2_with fail
  refine (HN.out _ (below_a HB.out _)).mono ?_
  rintro o w2 ⟨rfl, hb2⟩
  have HX2 := Lib.hid ((HX.out.alloc (.cells #[.bool (dN Q), .string (dS Q), .int .i64 (dX Q)] 24)).below hb2)
  have HZ2 := Lib.hid ((Bx.new w1 #[.bool (dN Q), .string (dS Q), .int .i64 (dX Q)] 24).below hb2)
  have HB2 := Lib.hid (below_nx (below_a HB.out _) hb2)
  clear hb2 c0 c1 c2 HX HY HB
  go_wp2_with fail
  refine (HA.out _ HB2.out).mono ?_
  rintro o w3 ⟨rfl, hb3⟩
  have HX3 := Lib.hid (HX2.out.below hb3)
  have HZ3 := Lib.hid (HZ2.out.below hb3)
  have HB3 := Lib.hid (below_nx HB2.out hb3)
  clear hb3 HX2 HZ2 HB2
  go_wp2_with fail
  refine (HM.out _).mono ?_
  rintro o w4 ⟨rfl, hb4⟩
  have HX4 := Lib.hid (HX3.out.below hb4)
  have HZ4 := Lib.hid (HZ3.out.below hb4)
  have HB4 := Lib.hid (below_nx HB3.out hb4)
  clear hb4 HX3 HZ3 HB3
  obtain ⟨d0, d1, d2⟩ := bx3 HZ4.out
  have g0 := HZ4.out.f 0
  have g1 := HZ4.out.f 1
  have g2 := HZ4.out.f 2
  obtain ⟨q0, q1, q2, q3, q4, q5, q6, q7, q8⟩ := HX4.out.nine
  obtain ⟨x0, x1, x2, x3, x4, x5, x6, x7, x8⟩ := nx_f HX4.out
  have hl4 := HX4.out.lt
  have hm4 := HZ4.out.lt
  go_wp2_with fail
  obtain ⟨w5, hw5⟩ : ∃ w5, w5 = ((w4.setCell ⟨w1.heap.size, 0, none⟩ (.bool (dN R))).setCell ⟨w1.heap.size, 1, none⟩ (.string (dS R))).setCell ⟨w1.heap.size, 2, none⟩ (.int .i64 (dX R)) := ⟨_, rfl⟩
  have hg5 : w4.grownBy w5 (some w1.heap.size) := by rw [hw5]; exact gr_set3 _ _ _ _ _
  have hX5 : Nx w5 (W.heap.size + 1) zH (.slice none 0 0) := gr_bx HX4.out hg5 (by simp; omega)
  rw [← hw5]
  clear hw5
  obtain ⟨W3, hW3⟩ : ∃ W3, W3 = setN w5 (W.heap.size + 1) ⟨3, false, dN R, dS R, dX R, 0, 0, ⟨#[]⟩⟩ (.slice none 0 0) := ⟨_, rfl⟩
  have hX : Nx W3 (W.heap.size + 1) ⟨3, false, dN R, dS R, dX R, 0, 0, ⟨#[]⟩⟩ (.slice none 0 0) := by rw [hW3]; exact hX5.setN _ _
  have hg : W.grownBy W3 (some b) := by rw [hW3]; exact gr_new (gr_new (gr_below HB4.out) hg5 (by omega)) (gr_setN _ _ _ _) (by omega)
  have hr : Rd w0 b l wn W3 := by
    rw [hW3]
    exact ((H.out.below HB4.out).other hg5 (by have := H.out.base; omega) (by have := H.out.lt; omega)).other (gr_setN _ _ _ _) (by have := H.out.base; omega) (by have := H.out.lt; omega)
  simp only [setN, Int.cast_ofNat_Int] at hW3
  rw [← hW3]
  clear hW3
  refine bodyPost_ret (res_ct Tryz.results59 _ _ (W.heap.size + 1) _ _ rfl rfl (ldNd hX)) rfl ?_
  exact ⟨hg, _, rfl, hr, kd_nil, by decide⟩
end
end Go.Proofs.YtppapkpceejnkaaGreatDoor
namespace Go.Proofs.YtppapkpceejnkaaGreatDoor
open Go.RowKit

section
variable {w0 W : World} {b wn : Nat} {l : List UInt8}
theorem leafA (H : Rd w0 b l wn W) (o : Obj) (h : Hd) (hu : h.u < 18446744073709551616) :
    AnsP w0 b wn W (.ok ((h, .nil), l)) (.returned (.tuple #[.agg (h.cells (.slice none 0 0)), .nilIface])) ((W.alloc o).alloc (.cells (h.cells (.slice none 0 0)) 28)) :=
  ⟨gr_trans (gr_alloc _ _ _) (gr_alloc _ _ _), _, rfl, (H.alloc _).alloc _, kd_nil, hu⟩
theorem gr_drew {A B : World} {r : Option Nat} (h : A.grownBy B r) : A.grownBy B.drew r := ⟨h.os, h.tape, h.output, h.size, h.block⟩
theorem AnsP.drew {R : Res (Hd × Fo)} {o : Ending} {W' : World} (h : AnsP w0 b wn W R o W') : AnsP w0 b wn W R o W'.drew := by
  obtain ⟨hg, h⟩ := h
  refine ⟨gr_drew hg, ?_⟩
  cases R with
  | error e =>
    obtain ⟨h1, r, h2⟩ := h
    exact ⟨h1, r, h2.drew⟩
  | ok y =>
    obtain ⟨⟨h0, k0⟩, r⟩ := y
    obtain ⟨v, h1, h2, h3, h4⟩ := h
    exact ⟨v, h1, h2.drew, h3.below (Below.refl _ _).drew, h4⟩
set_option maxRecDepth 100000 in
set_option maxHeartbeats 1000000 in
theorem other_bool (k a : Nat) (hk : k = 20 ∨ k = 21) (h : Rd w0 b l wn W) :
    Calls Tryz.prog 65 #[.pointer (some ⟨b, 0, none⟩), hdV 7 (k : Int) (a : Int)] W (AnsP w0 b wn W (.ok ((boolH (k == 21), .nil), l))) := by
  have H := Lib.hid h
  clear h
  rcases hk with rfl | rfl
  all_goals
    go_enter Tryz.func65, Tryz.ntmps65
    go_wp2_with fail
    refine bodyPost_ret (res_ct Tryz.results65 _ _ (W.heap.size + 1) _ _ rfl rfl (ldNd (h := (boolH _)) (v := .slice none 0 0) (Bx.new1 W _ _ _))) rfl ?_
    exact leafA H.out _ (boolH _) (by show (0 : Nat) < _; decide)
set_option maxRecDepth 100000 in
set_option maxHeartbeats 1000000 in
theorem other_null (a : Nat) (h : Rd w0 b l wn W) :
    Calls Tryz.prog 65 #[.pointer (some ⟨b, 0, none⟩), hdV 7 22 (a : Int)] W (AnsP w0 b wn W (.ok ((nullH, .nil), l))) := by
  have H := Lib.hid h
  clear h
  go_enter Tryz.func65, Tryz.ntmps65
  go_wp2_with fail
  refine bodyPost_ret (res_ct Tryz.results65 _ _ (W.heap.size + 1) _ _ rfl rfl (ldNd (h := nullH) (v := .slice none 0 0) (Bx.new1 W _ _ _))) rfl ?_
  exact leafA H.out _ nullH (by show (0 : Nat) < _; decide)
set_option maxRecDepth 100000 in
set_option maxHeartbeats 2000000 in
theorem other_float (k a : Nat) (ha : a < 18446744073709551616) (hk : k = 25 ∨ k = 26 ∨ k = 27) (h : Rd w0 b l wn W) :
    Calls Tryz.prog 65 #[.pointer (some ⟨b, 0, none⟩), hdV 7 (k : Int) (a : Int)] W (AnsP w0 b wn W (.ok ((floH (if k = 25 then 16 else if k = 26 then 32 else 64) a, .nil), l))) := by
  have H := Lib.hid h
  clear h
  rcases hk with rfl | rfl | rfl
  all_goals
    go_enter Tryz.func65, Tryz.ntmps65
    go_wp2_with fail
    go_region
    go_wp2
    refine bodyPost_ret (res_ct Tryz.results65 _ _ (W.heap.size + 1) _ _ rfl rfl (ldNd (h := (floH _ a)) (v := .slice none 0 0) (Bx.new1 W _ _ _))) rfl ?_
    exact (leafA H.out _ (floH _ a) ha).drew
set_option maxRecDepth 100000 in
set_option maxHeartbeats 1000000 in
theorem other_simple (k a : Nat) (ha : a < 18446744073709551616) (hk : k ≠ 20 ∧ k ≠ 21 ∧ k ≠ 22 ∧ ¬ (25 ≤ k ∧ k ≤ 27)) (h : Rd w0 b l wn W) :
    Calls Tryz.prog 65 #[.pointer (some ⟨b, 0, none⟩), hdV 7 (k : Int) (a : Int)] W (AnsP w0 b wn W (.ok ((simH a, .nil), l))) := by
  have H := Lib.hid h
  obtain ⟨h0, h1, h2, h3⟩ := hk
  have e0 : ((k : Int) == 20) = false := by simp; omega
  have e1 : ((k : Int) == 21) = false := by simp; omega
  have e2 : ((k : Int) == 22) = false := by simp; omega
  by_cases h4 : 25 ≤ k
  · have e3 : decide ((25 : Int) ≤ k) = true := by simp; omega
    have e4 : decide ((k : Int) ≤ 27) = false := by simp; omega
    clear h h0 h1 h2 h3 h4
    go_enter Tryz.func65, Tryz.ntmps65
    go_wp2_with fail
    refine bodyPost_ret (res_ct Tryz.results65 _ _ (W.heap.size + 1) _ _ rfl rfl (ldNd (h := (simH a)) (v := .slice none 0 0) (Bx.new1 W _ _ _))) rfl ?_
    exact leafA H.out _ (simH a) ha
  · have e3 : decide ((25 : Int) ≤ k) = false := by simp; omega
    clear h h0 h1 h2 h3 h4
    go_enter Tryz.func65, Tryz.ntmps65
    go_wp2_with fail
    refine bodyPost_ret (res_ct Tryz.results65 _ _ (W.heap.size + 1) _ _ rfl rfl (ldNd (h := (simH a)) (v := .slice none 0 0) (Bx.new1 W _ _ _))) rfl ?_
    exact leafA H.out _ (simH a) ha
theorem other_calls (k a : Nat) (ha : a < 18446744073709551616) (h : Rd w0 b l wn W) {x : Hd} (hx : othH k a = some x) :
    Calls Tryz.prog 65 #[.pointer (some ⟨b, 0, none⟩), hdV 7 (k : Int) (a : Int)] W (AnsP w0 b wn W (.ok ((x, .nil), l))) := by
  unfold othH at hx
  split at hx
  · cases hx
  split at hx
  · rename_i h1
    cases hx
    exact other_bool k a h1 h
  split at hx
  · rename_i h1
    cases hx
    subst h1
    exact other_null a h
  split at hx
  · rename_i h1
    cases hx
    exact other_float k a ha (by omega) h
  · cases hx
    exact other_simple k a ha (by omega) h
end
end Go.Proofs.YtppapkpceejnkaaGreatDoor
