/- The law's own: shown; the law CborwApart. The law CborwKeys. -/
import Derived.Test.YtppapkpceejnkaaGreatDoorZ5
import Derived.Test.YtppapkpceejnkaaGreatDoorYS
import Derived.Test.YtppapkpceejnkaaGreatDoorMr
namespace Go.Proofs.YtppapkpceejnkaaGreatDoor
open Go.RowKit

theorem cells_at {W : World} {B : Nat} {cs : Array Value} {T : TypeId} {h : Hd} {v : Value} (hL : Bx W B cs T) (o : Nat) (he : ∀ i, i < 9 → cs[o + i]? = (h.cells v)[i]?) : Cells W B o (h.cells v) := fun i u hi => by
  have hi9 : i < 9 := by
    have := (Array.getElem?_eq_some_iff.1 hi).1
    exact this
  exact hL.c (o + i) ((he i hi9).trans hi)
def tAH : Hd := ⟨5, false, false, ⟨#[]⟩, 0, 0, 0, ⟨#[97]⟩⟩
def n5H : Hd := ⟨3, false, true, ⟨#[53]⟩, 2, 0, 0, ⟨#[]⟩⟩
def n1H : Hd := ⟨3, false, false, ⟨#[49]⟩, 0, 0, 0, ⟨#[]⟩⟩
def bEH : Hd := ⟨6, false, false, ⟨#[]⟩, 0, 0, 0, ⟨#[]⟩⟩
def exH : Hd := ⟨11, false, false, ⟨#[]⟩, 0, 0, 0, ⟨#[]⟩⟩
def shF : Fo := .cons tAH .nil (.cons n5H .nil (.cons n1H .nil (.cons bEH .nil .nil)))
theorem sh_gl : AllG Gl (.cons mapC shF .nil) := ⟨(by show (4 : Nat) < 1353245080301; decide), ⟨(by show (0 : Nat) < 1353245080301; decide), trivial, (by show (0 : Nat) < 1353245080301; decide), trivial, (by show (0 : Nat) < 1353245080301; decide), trivial, (by show (0 : Nat) < 1353245080301; decide), trivial, trivial⟩, trivial⟩
theorem sh_chk : chk 2 mapC shF = 0 := by kernel_rfl
theorem sh_doc : docI mapC shF = ⟨#[162, 97, 97, 57, 1, 243, 1, 64]⟩ := by kernel_rfl
theorem ex_chk : chk 2 exH .nil = 61 := by kernel_rfl
theorem ex_doc : docI exH .nil = ⟨#[]⟩ := by kernel_rfl
theorem kd_sh {W : World} {L : Nat} (hL : Bx W L #[.int .i64 5, .bool false, .bool false, .string ⟨#[]⟩, .int .i64 0, .int .u64 0, .int .i64 0, .string ⟨#[97]⟩, .slice none 0 0, .int .i64 3, .bool false, .bool true, .string ⟨#[53]⟩, .int .i64 2, .int .u64 0, .int .i64 0, .string ⟨#[]⟩, .slice none 0 0, .int .i64 3, .bool false, .bool false, .string ⟨#[49]⟩, .int .i64 0, .int .u64 0, .int .i64 0, .string ⟨#[]⟩, .slice none 0 0, .int .i64 6, .bool false, .bool false, .string ⟨#[]⟩, .int .i64 0, .int .u64 0, .int .i64 0, .string ⟨#[]⟩, .slice none 0 0] 28) : Kd An W (.slice (some ⟨L, 0, none⟩) 4 4) shF := by
  refine .inr ⟨L, 0, 4, rfl, Nat.le_refl _, by show 0 + 1 + 1 + 1 + 1 < _; decide, hL.lt, trivial, ⟨⟨.slice none 0 0, ?_, .inl ⟨none, 0, rfl, rfl⟩⟩, by decide, ⟨⟨.slice none 0 0, ?_, .inl ⟨none, 0, rfl, rfl⟩⟩, by decide, ⟨⟨.slice none 0 0, ?_, .inl ⟨none, 0, rfl, rfl⟩⟩, by decide, ⟨⟨.slice none 0 0, ?_, .inl ⟨none, 0, rfl, rfl⟩⟩, by decide, trivial⟩⟩⟩⟩⟩
  · exact (cells_at (h := tAH) (v := .slice none 0 0) hL 0 (fun i hi => by
    match i, hi with
    | 0, _ => rfl
    | 1, _ => rfl
    | 2, _ => rfl
    | 3, _ => rfl
    | 4, _ => rfl
    | 5, _ => rfl
    | 6, _ => rfl
    | 7, _ => rfl
    | 8, _ => rfl
    | i + 9, hi => omega))
  · exact (cells_at (h := n5H) (v := .slice none 0 0) hL 9 (fun i hi => by
    match i, hi with
    | 0, _ => rfl
    | 1, _ => rfl
    | 2, _ => rfl
    | 3, _ => rfl
    | 4, _ => rfl
    | 5, _ => rfl
    | 6, _ => rfl
    | 7, _ => rfl
    | 8, _ => rfl
    | i + 9, hi => omega))
  · exact (cells_at (h := n1H) (v := .slice none 0 0) hL 18 (fun i hi => by
    match i, hi with
    | 0, _ => rfl
    | 1, _ => rfl
    | 2, _ => rfl
    | 3, _ => rfl
    | 4, _ => rfl
    | 5, _ => rfl
    | 6, _ => rfl
    | 7, _ => rfl
    | 8, _ => rfl
    | i + 9, hi => omega))
  · exact (cells_at (h := bEH) (v := .slice none 0 0) hL 27 (fun i hi => by
    match i, hi with
    | 0, _ => rfl
    | 1, _ => rfl
    | 2, _ => rfl
    | 3, _ => rfl
    | 4, _ => rfl
    | 5, _ => rfl
    | 6, _ => rfl
    | 7, _ => rfl
    | 8, _ => rfl
    | i + 9, hi => omega))
set_option maxRecDepth 100000 in
set_option maxHeartbeats 1000000 in
theorem shown12_calls (w : World) (hT : Tv w) : Calls Tryz.prog 22 #[] w (BolP true w) := by
  obtain ⟨W1, hW1⟩ : ∃ W1, W1 = (w.alloc (.cells #[.int .i64 5, .bool false, .bool false, .string ⟨#[]⟩, .int .i64 0, .int .u64 0, .int .i64 0, .string ⟨#[97]⟩, .slice none 0 0, .int .i64 3, .bool false, .bool true, .string ⟨#[53]⟩, .int .i64 2, .int .u64 0, .int .i64 0, .string ⟨#[]⟩, .slice none 0 0, .int .i64 3, .bool false, .bool false, .string ⟨#[49]⟩, .int .i64 0, .int .u64 0, .int .i64 0, .string ⟨#[]⟩, .slice none 0 0, .int .i64 6, .bool false, .bool false, .string ⟨#[]⟩, .int .i64 0, .int .u64 0, .int .i64 0, .string ⟨#[]⟩, .slice none 0 0] 28)).alloc (.cells #[.int .i64 8, .bool false, .bool false, .string ⟨#[]⟩, .int .i64 0, .int .u64 0, .int .i64 0, .string ⟨#[]⟩, .slice (some ⟨w.heap.size, 0, none⟩) 4 4] 28) := ⟨_, rfl⟩
  have HB1 : Hid (Below w.heap.size w W1) := Lib.hid (by rw [hW1]; exact below_a (below_a (Below.refl _ _) _) _)
  have hL1 : Bx W1 w.heap.size #[.int .i64 5, .bool false, .bool false, .string ⟨#[]⟩, .int .i64 0, .int .u64 0, .int .i64 0, .string ⟨#[97]⟩, .slice none 0 0, .int .i64 3, .bool false, .bool true, .string ⟨#[53]⟩, .int .i64 2, .int .u64 0, .int .i64 0, .string ⟨#[]⟩, .slice none 0 0, .int .i64 3, .bool false, .bool false, .string ⟨#[49]⟩, .int .i64 0, .int .u64 0, .int .i64 0, .string ⟨#[]⟩, .slice none 0 0, .int .i64 6, .bool false, .bool false, .string ⟨#[]⟩, .int .i64 0, .int .u64 0, .int .i64 0, .string ⟨#[]⟩, .slice none 0 0] 28 := by rw [hW1]; exact (Bx.new w _ _).alloc _
  have HT := Lib.hid hT
  have HA : Hid (Calls Tryz.prog 24 #[.agg #[.int .i64 8, .bool false, .bool false, .string ⟨#[]⟩, .int .i64 0, .int .u64 0, .int .i64 0, .string ⟨#[]⟩, .slice (some ⟨w.heap.size, 0, none⟩) 4 4]] W1 fun o w' => o = .returned (.tuple #[.string ⟨#[162, 97, 97, 57, 1, 243, 1, 64]⟩, .int .i64 0]) ∧ Below W1.heap.size W1 w') := Lib.hid (by
    have := Write_calls12 mapC shF _ W1 (HT.out.below HB1.out) (kd_sh hL1) (by decide) (by decide) sh_gl
    unfold DocI at this
    rw [sh_chk, sh_doc] at this
    exact this)
  have HE : Hid (∀ W, Below w.heap.size w W → Calls Tryz.prog 24 #[.agg #[.int .i64 11, .bool false, .bool false, .string ⟨#[]⟩, .int .i64 0, .int .u64 0, .int .i64 0, .string ⟨#[]⟩, .slice none 0 0]] W fun o w' => o = .returned (.tuple #[.string ⟨#[]⟩, .int .i64 61]) ∧ Below W.heap.size W w') := Lib.hid (fun W hb => by
    have := Write_calls12 exH .nil (.slice none 0 0) W (HT.out.below hb) (.inl ⟨none, 0, rfl, rfl⟩) (by decide) (by decide) ⟨(by show (0 : Nat) < 1353245080301; decide), trivial, trivial⟩
    unfold DocI at this
    rw [ex_chk, ex_doc] at this
    exact this)
  clear hT hL1
  go_enter Tryz.func22, Tryz.ntmps22
  go_wp2_with fail
  rw [← hW1]
  clear hW1
  refine HA.out.mono ?_
  rintro o w2 ⟨rfl, hb2⟩
  have HB2 := Lib.hid (below_nx HB1.out hb2)
  clear hb2
  go_wp2_with fail
  refine (HE.out _ HB2.out).mono ?_
  rintro o w3 ⟨rfl, hb3⟩
  have HB3 := Lib.hid (below_nx HB2.out hb3)
  clear hb3
  go_wp2
  go_ret
  exact ⟨rfl, HB3.out⟩
theorem items_apart {h h2 : Hd} {k k2 : Fo} (e : chk 2 h k = 0) (e2 : chk 2 h2 k2 = 0) (hu : AllG Gu (.cons h k .nil)) (hu2 : AllG Gu (.cons h2 k2 .nil)) : 0 < (docI h k).size ∧ ((sameH h h2 && sameF k k2) = true → docI h2 k2 = docI h k) ∧
    ((sameH h h2 && sameF k k2) = false → ((docI h k).size ≤ (docI h2 k2).size → ¬ ((docI h2 k2).extract 0 (docI h k).size).toList = (docI h k).toList) ∧ ¬ (docI h k).toList = (docI h2 k2).toList) := by
  rw [docI, docI, if_pos e, if_pos e2]
  refine ⟨by rw [arB_size]; exact itB_pos h k, fun hs => ?_, fun hs => ?_⟩
  · rw [Bool.and_eq_true] at hs
    rw [sm_hd hs.1, sm_fo k k2 hs.2]
  · have hno : ∀ t, itB h k ++ t ≠ itB h2 k2 := fun t ht => by
      have := (it_begins e hu e2 hu2 ht).1
      rw [this.1, this.2, sm_self, sm_fself] at hs
      cases hs
    refine ⟨fun _ => ?_, ?_⟩
    · intro h5
      rw [Lib.toList_data, Lib.toList_data, Lib.extract_data, arB_size] at h5
      refine hno ((itB h2 k2).drop (itB h k).length) ?_
      have h6 : (itB h2 k2).take (itB h k).length = itB h k := by simpa [arB] using h5
      have h7 := List.take_append_drop (itB h k).length (itB h2 k2)
      rw [h6] at h7
      exact h7
    · intro h5
      rw [Lib.toList_data, Lib.toList_data] at h5
      refine hno [] ?_
      rw [List.append_nil]
      simpa [arB] using h5
set_option maxRecDepth 100000 in
set_option maxHeartbeats 4000000 in
theorem apart12_calls (ha hb : Hd) (ka kb : Fo) (va vb : Value) (w : World) (hT : Tv w) (hka : Kd An w va ka) (hkb : Kd An w vb kb) (hua : ha.u < 18446744073709551616) (hub : hb.u < 18446744073709551616) : Calls Tryz.prog 11 #[.agg (ha.cells va), .agg (hb.cells vb)] w (BolP true w) := by
  obtain ⟨A, c, rfl, _, _, _⟩ := hka.form
  obtain ⟨A', c', rfl, _, _, _⟩ := hkb.form
  have HT := Lib.hid hT
  have HK := Lib.hid hka
  have HK' := Lib.hid hkb
  have HU := Lib.hid hua
  have HU' := Lib.hid hub
  clear hT hka hkb hua hub
  simp only [Hd.cells]
  go_enter Tryz.func11, Tryz.ntmps11
  go_wp2_with fail
  refine (shown12_calls _ (HT.out.below (below_a (below_a (Below.refl _ _) _) _))).mono ?_
  rintro o w1 ⟨rfl, hb1⟩
  have HX1 := Lib.hid (((Nx.new w ha (.slice A ka.len c)).alloc _).below hb1)
  have HY1 := Lib.hid (show Nx w1 (w.heap.size + 1) hb (.slice A' kb.len c') from (show Nx _ (w.heap.size + 1) hb (.slice A' kb.len c') from Bx.new1 w _ _ _).below hb1)
  have HB1 := Lib.hid (below_nx (below_a (below_a (Below.refl _ _) _) _) hb1)
  clear hb1
  obtain ⟨q0, q1, q2, q3, q4, q5, q6, q7, q8⟩ := HX1.out.nine
  have hl1 := HX1.out.lt
  have hm1 := HY1.out.lt
  go_wp2_with fail
  refine (Few_calls ka ha _ _ (HK.out.below HB1.out) HU.out).mono ?_
  rintro o w2 ⟨v2, rfl, hk2, hb2⟩
  obtain ⟨h2, hh2⟩ : ∃ h2, h2 = cutH ha := ⟨_, rfl⟩
  obtain ⟨K, hKK⟩ : ∃ K, K = fewK ka := ⟨_, rfl⟩
  have HD : Hid (K.deep < 1000 ∧ h2.u < 18446744073709551616 ∧ AllG Gl (.cons h2 K .nil)) := Lib.hid (by rw [hKK, hh2]; exact ⟨Nat.lt_of_le_of_lt (few_deep ka) (by decide), HU.out, few_all _ ka⟩)
  rw [← hh2]
  rw [← hKK] at hk2
  have HX2 := Lib.hid (HX1.out.below hb2)
  have HY2 := Lib.hid (HY1.out.below hb2)
  have HB2 := Lib.hid (below_nx HB1.out hb2)
  have HKd := Lib.hid (hk2.mono (Q := fun b => w.heap.size + 1 < b) fun b hb _ => Nat.lt_of_lt_of_le hm1 hb)
  obtain ⟨A2, c2, rfl, _, _, _⟩ := hk2.form
  clear hk2 hb2 q0 q1 q2 q3 q4 q5 q6 q7 q8 HX1 HB1 HY1 hh2 hKK
  simp only [Hd.cells]
  have x := fun i => Bx.f HX2.out i
  have x0 := x 0
  have x1 := x 1
  have x2 := x 2
  have x3 := x 3
  have x4 := x 4
  have x5 := x 5
  have x6 := x 6
  have x7 := x 7
  have x8 := x 8
  clear x
  obtain ⟨y0, y1, y2, y3, y4, y5, y6, y7, y8⟩ := HX2.out.nine
  obtain ⟨p0, p1, p2, p3, p4, p5, p6, p7, p8⟩ := HY2.out.nine
  have hl2 := HX2.out.lt
  have hm2 := HY2.out.lt
  go_wp2_with fail
  obtain ⟨W3, hW3⟩ : ∃ W3, W3 = setN w2 w.heap.size h2 (.slice A2 K.len c2) := ⟨_, rfl⟩
  have HX3 : Hid (Nx W3 w.heap.size h2 (.slice A2 K.len c2)) := Lib.hid (by rw [hW3]; exact HX2.out.setN _ _)
  have HY3 : Hid (Nx W3 (w.heap.size + 1) hb (.slice A' kb.len c')) := Lib.hid (by rw [hW3]; exact (setN_other (by omega)).trans HY2.out)
  have HB3 : Hid (Below w.heap.size w W3) := Lib.hid (by rw [hW3]; exact below_setN HB2.out (Nat.le_refl _) _ _)
  have HK3 : Hid (Kd (fun b => w.heap.size + 1 < b) W3 (.slice A2 K.len c2) K) := Lib.hid (by
    rw [hW3]
    exact HKd.out.kept (by rw [size_setN]; exact Nat.le_refl _) fun b hb _ => setN_other (by omega))
  simp only [setN] at hW3
  rw [← hW3]
  clear hW3 x0 x1 x2 x3 x4 x5 x6 x7 x8 y0 y1 y2 y3 y4 y5 y6 y7 y8 p0 p1 p2 p3 p4 p5 p6 p7 p8 HX2 HY2 HB2 HKd
  have hm3 := HY3.out.lt
  refine (Few_calls kb hb _ _ (HK'.out.below HB3.out) HU'.out).mono ?_
  rintro o w4 ⟨v4, rfl, hk4, hb4⟩
  obtain ⟨h4, hh4⟩ : ∃ h4, h4 = cutH hb := ⟨_, rfl⟩
  obtain ⟨L, hLL⟩ : ∃ L, L = fewK kb := ⟨_, rfl⟩
  have HE : Hid (L.deep < 1000 ∧ h4.u < 18446744073709551616 ∧ AllG Gl (.cons h4 L .nil)) := Lib.hid (by rw [hLL, hh4]; exact ⟨Nat.lt_of_le_of_lt (few_deep kb) (by decide), HU'.out, few_all _ kb⟩)
  rw [← hh4]
  rw [← hLL] at hk4
  have HX4 := Lib.hid (HX3.out.below hb4)
  have HY4 := Lib.hid (HY3.out.below hb4)
  have HB4 := Lib.hid (below_nx HB3.out hb4)
  have HK4 := Lib.hid (HK3.out.below hb4)
  have HL4 := Lib.hid (hk4.mono (Q := fun b => w.heap.size + 1 < b) fun b hb _ => Nat.lt_of_lt_of_le hm3 hb)
  obtain ⟨A4, c4, rfl, _, _, _⟩ := hk4.form
  clear hk4 hb4 HX3 HB3 HY3 hh4 hLL
  simp only [Hd.cells]
  have x := fun i => Bx.f HY4.out i
  have x0 := x 0
  have x1 := x 1
  have x2 := x 2
  have x3 := x 3
  have x4 := x 4
  have x5 := x 5
  have x6 := x 6
  have x7 := x 7
  have x8 := x 8
  clear x
  obtain ⟨y0, y1, y2, y3, y4, y5, y6, y7, y8⟩ := HY4.out.nine
  obtain ⟨z0, z1, z2, z3, z4, z5, z6, z7, z8⟩ := HX4.out.nine
  have hl4 := HX4.out.lt
  have hm4 := HY4.out.lt
  go_wp2_with fail
  obtain ⟨W5, hW5⟩ : ∃ W5, W5 = setN w4 (w.heap.size + 1) h4 (.slice A4 L.len c4) := ⟨_, rfl⟩
  have HY5 : Hid (Nx W5 (w.heap.size + 1) h4 (.slice A4 L.len c4)) := Lib.hid (by rw [hW5]; exact HY4.out.setN _ _)
  have HX5 : Hid (Nx W5 w.heap.size h2 (.slice A2 K.len c2)) := Lib.hid (by rw [hW5]; exact (setN_other (by omega)).trans HX4.out)
  have HB5 : Hid (Below w.heap.size w W5) := Lib.hid (by rw [hW5]; exact below_setN HB4.out (by omega) _ _)
  have HK5 : Hid (Kd An W5 (.slice A2 K.len c2) K) := Lib.hid (by
    rw [hW5]
    exact (HK4.out.kept (by rw [size_setN]; exact Nat.le_refl _) fun b hb _ => setN_other (by omega)).mono fun _ _ _ => trivial)
  have HL5 : Hid (Kd An W5 (.slice A4 L.len c4) L) := Lib.hid (by
    rw [hW5]
    exact (HL4.out.kept (by rw [size_setN]; exact Nat.le_refl _) fun b hb _ => setN_other (by omega)).mono fun _ _ _ => trivial)
  simp only [setN] at hW5
  rw [← hW5]
  clear hW5 x0 x1 x2 x3 x4 x5 x6 x7 x8 y0 y1 y2 y3 y4 y5 y6 y7 y8 z0 z1 z2 z3 z4 z5 z6 z7 z8 HX4 HY4 HB4 HK4 HL4
  obtain ⟨Q, hQ⟩ : ∃ Q, Q = (sameH h2 h4 && sameF K L) := ⟨_, rfl⟩
  obtain ⟨D, hD⟩ : ∃ D, D = docI h2 K := ⟨_, rfl⟩
  obtain ⟨e, he⟩ : ∃ e, e = chk 2 h2 K := ⟨_, rfl⟩
  obtain ⟨D', hD'⟩ : ∃ D', D' = docI h4 L := ⟨_, rfl⟩
  obtain ⟨f, hf⟩ : ∃ f, f = chk 2 h4 L := ⟨_, rfl⟩
  have HQ : Hid (e = 0 → f = 0 → 0 < D.size ∧ (Q = true → D' = D) ∧ (Q = false → (D.size ≤ D'.size → ¬ (D'.extract 0 D.size).toList = D.toList) ∧ ¬ D.toList = D'.toList)) := Lib.hid (by
    rw [he, hf, hQ, hD, hD']
    exact fun a b => items_apart a b (gu_one HK5.out HD.out.2.1) (gu_one HL5.out HE.out.2.1))
  have HA : Hid (Calls Tryz.prog 24 #[.agg (h2.cells (.slice A2 K.len c2))] W5 fun o w' => o = .returned (.tuple #[.string D, .int .i64 e]) ∧ Below W5.heap.size W5 w') := Lib.hid (by
    have := Write_calls12 h2 K _ W5 (HT.out.below HB5.out) HK5.out HD.out.2.1 HD.out.1 HD.out.2.2
    unfold DocI at this
    rwa [← hD, ← he] at this)
  have HZ : Hid (∀ W, Below W5.heap.size W5 W → Calls Tryz.prog 24 #[.agg (h4.cells (.slice A4 L.len c4))] W fun o w' => o = .returned (.tuple #[.string D', .int .i64 f]) ∧ Below W.heap.size W w') := Lib.hid (fun W hW => by
    have := Write_calls12 h4 L (.slice A4 L.len c4) W ((HT.out.below HB5.out).below hW) (HL5.out.below hW) HE.out.2.1 HE.out.1 HE.out.2.2
    unfold DocI at this
    rwa [← hD', ← hf] at this)
  have HR : Hid (∀ W, Below W5.heap.size W5 W → Calls Tryz.prog 19 #[.agg (h2.cells (.slice A2 K.len c2)), .agg (h4.cells (.slice A4 L.len c4))] W (BolP Q W)) := Lib.hid (fun W hW => by rw [hQ]; exact rSame_calls K L h2 h4 _ _ W (HK5.out.below hW) (HL5.out.below hW))
  simp only [Hd.cells] at HA HZ HR
  clear hQ hD he hD' hf HK5 HL5 HK3 HD HE HT
  obtain ⟨q0, q1, q2, q3, q4, q5, q6, q7, q8⟩ := HX5.out.nine
  go_wp2_with fail
  refine HA.out.mono ?_
  rintro o w6 ⟨rfl, hb6⟩
  have HB6 := Lib.hid hb6
  clear hb6 q0 q1 q2 q3 q4 q5 q6 q7 q8
  obtain ⟨q0, q1, q2, q3, q4, q5, q6, q7, q8⟩ := (HY5.out.below HB6.out).nine
  go_wp2_with fail
  refine (HZ.out _ HB6.out).mono ?_
  rintro o w7 ⟨rfl, hb7⟩
  have HB7 := Lib.hid (below_nx HB6.out hb7)
  clear hb7 q0 q1 q2 q3 q4 q5 q6 q7 q8
  obtain ⟨q0, q1, q2, q3, q4, q5, q6, q7, q8⟩ := (HX5.out.below HB7.out).nine
  obtain ⟨p0, p1, p2, p3, p4, p5, p6, p7, p8⟩ := (HY5.out.below HB7.out).nine
  by_cases he : e = 0
  · by_cases hf : f = 0
    · subst he hf
      obtain ⟨hpos, hq1, hq2⟩ := HQ.out rfl rfl
      cases Q with
      | true =>
        obtain rfl := hq1 rfl
        have hxt : D'.extract 0 D'.size = D' := ext_all D'
        clear hq1 hq2 HQ
        go_wp2_with fail
        refine (HR.out _ HB7.out).mono ?_
        rintro o w8 ⟨rfl, hb8⟩
        have HB8 := Lib.hid (below_nx HB7.out hb8)
        clear hb8
        go_wp2_with fail
        go_ret
        exact ⟨by simp, below_nx HB5.out HB8.out⟩
      | false =>
        obtain ⟨hn1, hn2⟩ := hq2 rfl
        by_cases hle : D.size ≤ D'.size
        · have hn1 := hn1 hle
          clear hq1 hq2 HQ
          go_wp2_with fail
          refine (HR.out _ HB7.out).mono ?_
          rintro o w8 ⟨rfl, hb8⟩
          have HB8 := Lib.hid (below_nx HB7.out hb8)
          clear hb8
          go_wp2_with fail
          go_ret
          exact ⟨by rw [beq_eq_false_iff_ne.2 hn2, beq_eq_false_iff_ne.2 hn1]; rfl, below_nx HB5.out HB8.out⟩
        · clear hq1 hq2 HQ hn1
          go_wp2_with fail
          refine (HR.out _ HB7.out).mono ?_
          rintro o w8 ⟨rfl, hb8⟩
          have HB8 := Lib.hid (below_nx HB7.out hb8)
          clear hb8
          go_wp2_with fail
          go_ret
          exact ⟨by rw [beq_eq_false_iff_ne.2 hn2]; rfl, below_nx HB5.out HB8.out⟩
    · have hf2 : (f != 0) = true := by simpa using hf
      have hf3 : (f == 0) = false := by simpa using hf
      subst he
      go_wp2_with fail
      go_ret
      exact ⟨rfl, below_nx HB5.out HB7.out⟩
  · have hf2 : (e != 0) = true := by simpa using he
    have hf3 : (e == 0) = false := by simpa using he
    go_wp2_with fail
    go_ret
    exact ⟨rfl, below_nx HB5.out HB7.out⟩
end Go.Proofs.YtppapkpceejnkaaGreatDoor
namespace Go.Proofs.YtppapkpceejnkaaGreatDoor
open Go.RowKit

theorem key_facts (h : Hd) (k : Fo) : (kyE h k ≠ 0 → kyE h k = 61 ∧ keyI h k = ⟨#[]⟩ ∧ chk 2 mapC (keyF h k) ≠ 0) ∧
    (kyE h k = 0 → chk 2 h k = 0 ∧ chk 2 mapC (keyF h k) = 0 ∧ keyI h k = docI h k ∧ docI mapC (keyF h k) = ⟨#[161]⟩ ++ docI h k ++ ⟨#[246]⟩) := by
  refine ⟨fun h0 => ?_, fun h0 => ?_⟩
  · have h1 : chk 2 mapC (keyF h k) ≠ 0 := fun e => h0 (by rw [kyE, if_pos e])
    exact ⟨by rw [kyE, if_neg h1], by rw [keyI, if_neg h0], h1⟩
  · have h1 : chk 2 mapC (keyF h k) = 0 := by
      rw [kyE] at h0
      split at h0
      · assumption
      · cases h0
    have h2 := chk_key h1
    refine ⟨h2, h1, by rw [keyI, if_pos h0, docI, if_pos h2], ?_⟩
    rw [docI, if_pos h1, docI, if_pos h2, keyF, key_bytes]
    refine str_inj ?_
    rw [app_data, app_data]
    simp [arB]
set_option maxRecDepth 100000 in
set_option maxHeartbeats 4000000 in
theorem keys12_calls (ha : Hd) (ka : Fo) (va : Value) (w : World) (hT : Tv w) (hka : Kd An w va ka) (hua : ha.u < 18446744073709551616) : Calls Tryz.prog 12 #[.agg (ha.cells va)] w (BolP true w) := by
  obtain ⟨A, c, rfl, _, _, _⟩ := hka.form
  have HT := Lib.hid hT
  have HK := Lib.hid hka
  have HU := Lib.hid hua
  clear hT hka hua
  simp only [Hd.cells]
  go_enter Tryz.func12, Tryz.ntmps12
  go_wp2_with fail
  refine (shown12_calls _ (HT.out.below (below_a (Below.refl _ _) _))).mono ?_
  rintro o w1 ⟨rfl, hb1⟩
  have HX1 := Lib.hid ((Nx.new w ha (.slice A ka.len c)).below hb1)
  have HB1 := Lib.hid (below_nx (below_a (Below.refl _ _) _) hb1)
  clear hb1
  obtain ⟨q0, q1, q2, q3, q4, q5, q6, q7, q8⟩ := HX1.out.nine
  have hl1 := HX1.out.lt
  go_wp2_with fail
  refine (Few_calls ka ha _ _ (HK.out.below HB1.out) HU.out).mono ?_
  rintro o w2 ⟨v2, rfl, hk2, hb2⟩
  obtain ⟨h2, hh2⟩ : ∃ h2, h2 = cutH ha := ⟨_, rfl⟩
  obtain ⟨K, hKK⟩ : ∃ K, K = fewK ka := ⟨_, rfl⟩
  have HD : Hid (K.deep < 900 ∧ h2.u < 18446744073709551616 ∧ AllG Gl (.cons h2 K .nil)) := Lib.hid (by rw [hKK, hh2]; exact ⟨Nat.lt_of_le_of_lt (few_deep ka) (by decide), HU.out, few_all _ ka⟩)
  rw [← hh2]
  rw [← hKK] at hk2
  have HX2 := Lib.hid (HX1.out.below hb2)
  have HB2 := Lib.hid (below_nx HB1.out hb2)
  have HKd := Lib.hid (hk2.mono (Q := fun b => w.heap.size < b) fun b hb _ => Nat.lt_of_lt_of_le hl1 hb)
  obtain ⟨A2, c2, rfl, _, _, _⟩ := hk2.form
  clear hk2 hb2 q0 q1 q2 q3 q4 q5 q6 q7 q8 HX1 HB1 hh2 hKK
  simp only [Hd.cells]
  have x := fun i => Bx.f HX2.out i
  have x0 := x 0
  have x1 := x 1
  have x2 := x 2
  have x3 := x 3
  have x4 := x 4
  have x5 := x 5
  have x6 := x 6
  have x7 := x 7
  have x8 := x 8
  clear x
  obtain ⟨y0, y1, y2, y3, y4, y5, y6, y7, y8⟩ := HX2.out.nine
  have hl2 := HX2.out.lt
  go_wp2_with fail
  obtain ⟨W3, hW3⟩ : ∃ W3, W3 = setN w2 w.heap.size h2 (.slice A2 K.len c2) := ⟨_, rfl⟩
  have HX3 : Hid (Nx W3 w.heap.size h2 (.slice A2 K.len c2)) := Lib.hid (by rw [hW3]; exact HX2.out.setN _ _)
  have HB3 : Hid (Below w.heap.size w W3) := Lib.hid (by rw [hW3]; exact below_setN HB2.out (Nat.le_refl _) _ _)
  have HK3 : Hid (Kd An W3 (.slice A2 K.len c2) K) := Lib.hid (by
    rw [hW3]
    exact (HKd.out.kept (by rw [size_setN]; exact Nat.le_refl _) fun b hb _ => setN_other (by omega)).mono fun _ _ _ => trivial)
  simp only [setN] at hW3
  rw [← hW3]
  clear hW3 x0 x1 x2 x3 x4 x5 x6 x7 x8 y0 y1 y2 y3 y4 y5 y6 y7 y8 HX2 HB2 HKd
  obtain ⟨ke, hke⟩ : ∃ e, e = kyE h2 K := ⟨_, rfl⟩
  obtain ⟨kI, hkI⟩ : ∃ e, e = keyI h2 K := ⟨_, rfl⟩
  obtain ⟨D, hD⟩ : ∃ D, D = docI h2 K := ⟨_, rfl⟩
  obtain ⟨f, hf⟩ : ∃ f, f = chk 2 h2 K := ⟨_, rfl⟩
  obtain ⟨M, hM⟩ : ∃ D, D = docI mapC (keyF h2 K) := ⟨_, rfl⟩
  obtain ⟨g, hg⟩ : ∃ f, f = chk 2 mapC (keyF h2 K) := ⟨_, rfl⟩
  have hfa := key_facts h2 K
  rw [← hke, ← hkI, ← hD, ← hf, ← hM, ← hg] at hfa
  have HA : Hid (∀ W, Below W3.heap.size W3 W → Calls Tryz.prog 26 #[.agg (h2.cells (.slice A2 K.len c2))] W fun o w' => o = .returned (.tuple #[.string kI, .int .i64 ke]) ∧ Below W.heap.size W w') := Lib.hid (fun W hW => by
    have := Key_calls12 h2 K _ W ((HT.out.below HB3.out).below hW) (HK3.out.below hW) HD.out.2.1 HD.out.1 HD.out.2.2
    rwa [← hkI, ← hke] at this)
  have HZ : Hid (∀ W, Below W3.heap.size W3 W → Calls Tryz.prog 24 #[.agg (h2.cells (.slice A2 K.len c2))] W fun o w' => o = .returned (.tuple #[.string D, .int .i64 f]) ∧ Below W.heap.size W w') := Lib.hid (fun W hW => by
    have := Write_calls12 h2 K (.slice A2 K.len c2) W ((HT.out.below HB3.out).below hW) (HK3.out.below hW) HD.out.2.1 (by have := HD.out.1; omega) HD.out.2.2
    unfold DocI at this
    rwa [← hD, ← hf] at this)
  have HR : Hid (∀ W, Below W3.heap.size W3 W → Calls Tryz.prog 24 #[.agg (mapC.cells (.slice (some ⟨W.heap.size, 0, none⟩) 2 2))] (W.alloc (.cells #[.int .i64 h2.kind, .bool h2.b, .bool h2.neg, .string h2.dig, .int .i64 h2.exp, .int .u64 (h2.u : Int), .int .i64 h2.w, .string h2.s, .slice A2 K.len c2, .int .i64 1, .bool false, .bool false, .string ⟨#[]⟩, .int .i64 0, .int .u64 0, .int .i64 0, .string ⟨#[]⟩, .slice none 0 0] 28)) fun o w' => o = .returned (.tuple #[.string M, .int .i64 g]) ∧ Below W.heap.size W w') := Lib.hid (fun W hW => by
    have hbW : Below W.heap.size W (W.alloc (.cells #[.int .i64 h2.kind, .bool h2.b, .bool h2.neg, .string h2.dig, .int .i64 h2.exp, .int .u64 (h2.u : Int), .int .i64 h2.w, .string h2.s, .slice A2 K.len c2, .int .i64 1, .bool false, .bool false, .string ⟨#[]⟩, .int .i64 0, .int .u64 0, .int .i64 0, .string ⟨#[]⟩, .slice none 0 0] 28)) := below_a (Below.refl _ _) _
    obtain ⟨hg1, hg2⟩ := key_good (h := h2) HD.out.1 HD.out.2.2
    refine (Write_calls12 mapC (keyF h2 K) _ _ (((HT.out.below HB3.out).below hW).below hbW) (kd_key ((HK3.out.below hW).below hbW) HD.out.2.1 trivial (Bx.new W _ _)) (by decide) hg1 hg2).mono ?_
    rintro o w' ⟨ho, hb⟩
    rw [← hM, ← hg] at ho
    exact ⟨ho, below_nx hbW hb⟩)
  simp only [Hd.cells, mapC, Int.cast_ofNat_Int] at HA HZ HR
  have HSz : Hid (kI.size ≤ 1000000) := Lib.hid (by
    rw [hkI, keyI]
    split
    · rename_i h0
      have h1 := itB_le ((key_facts h2 K).2 h0).1 (gu_one HK3.out HD.out.2.1)
      rw [arB_size]
      omega
    · exact Nat.zero_le _)
  clear hke hkI hD hf hM hg HK3 HD HT HK HU
  obtain ⟨q0, q1, q2, q3, q4, q5, q6, q7, q8⟩ := HX3.out.nine
  go_wp2_with fail
  refine (HA.out _ (Below.refl _ _)).mono ?_
  rintro o w6 ⟨rfl, hb6⟩
  have HB6 := Lib.hid hb6
  clear hb6 q0 q1 q2 q3 q4 q5 q6 q7 q8
  obtain ⟨q0, q1, q2, q3, q4, q5, q6, q7, q8⟩ := (HX3.out.below HB6.out).nine
  go_wp2_with fail
  refine (HZ.out _ HB6.out).mono ?_
  rintro o w7 ⟨rfl, hb7⟩
  have HB7 := Lib.hid (below_nx HB6.out hb7)
  clear hb7 q0 q1 q2 q3 q4 q5 q6 q7 q8
  obtain ⟨q0, q1, q2, q3, q4, q5, q6, q7, q8⟩ := (HX3.out.below HB7.out).nine
  by_cases he : ke = 0
  · obtain ⟨f1, f2, f3, f4⟩ := hfa.2 he
    subst he f1 f2 f3
    have HF4 := Lib.hid f4
    clear hfa f4
    go_wp2_with fail
    refine (HR.out _ HB7.out).mono ?_
    rintro o w8 ⟨rfl, hb8⟩
    have HB8 := Lib.hid (below_nx HB7.out hb8)
    clear hb8 q0 q1 q2 q3 q4 q5 q6 q7 q8
    have f4 := HF4.out
    have hsz := HSz.out
    go_wp2_with fail
    go_ret
    exact ⟨by simp, below_nx HB3.out HB8.out⟩
  · obtain ⟨f1, f2, f3⟩ := hfa.1 he
    have hk2 : (ke != 0) = true := by simpa using he
    have hk3 : (ke == 0) = false := by simpa using he
    have hg2 : (g != 0) = true := by simpa using f3
    subst f1 f2
    clear hfa
    go_wp2_with fail
    refine (HR.out _ HB7.out).mono ?_
    rintro o w8 ⟨rfl, hb8⟩
    have HB8 := Lib.hid (below_nx HB7.out hb8)
    clear hb8 q0 q1 q2 q3 q4 q5 q6 q7 q8
    go_wp2_with fail
    go_ret
    exact ⟨rfl, below_nx HB3.out HB8.out⟩
end Go.Proofs.YtppapkpceejnkaaGreatDoor
