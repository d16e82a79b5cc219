/- The law CborwBack. -/
import Derived.Test.YtppapkpceejnkaaGreatDoorKy
namespace Go.Proofs.YtppapkpceejnkaaGreatDoor
open Go.RowKit

set_option maxRecDepth 100000 in
set_option maxHeartbeats 4000000 in
theorem back12_calls (ha : Hd) (ka : Fo) (va : Value) (more : ByteArray) (w : World) (hT : Tc w) (hka : Kd An w va ka) (hua : ha.u < 18446744073709551616) : Calls Tryz.prog 9 #[.agg (ha.cells va), .string more] w (BolP true w) := by
  obtain ⟨A, c, rfl, _, _, _⟩ := hka.form
  have HT := Lib.hid hT
  have HK := Lib.hid hka
  have HU := Lib.hid hua
  obtain ⟨m, hm⟩ : ∃ m, m = cutN 100 more := ⟨_, rfl⟩
  have hcutm : more.extract 0 (min (more.size : Int) 100).toNat = ⟨m.toArray⟩ := by rw [hm]; rfl
  have hlm : m.length ≤ 100 := by rw [hm]; exact cutN_len _ _
  have HCutm := Lib.hid hcutm
  have hr1 : 0 ≤ min (more.size : Int) 100 ∧ min (more.size : Int) 100 ≤ more.size := by omega
  clear hT hka hua hm hcutm
  simp only [Hd.cells]
  go_enter Tryz.func9, Tryz.ntmps9
  go_wp2_with fail
  refine (shown12_calls _ ((tc_tv HT.out).below (below_a (Below.refl _ _) _))).mono ?_
  rintro o w1 ⟨rfl, hb1⟩
  have HX1 := Lib.hid ((Nx.new w ha (.slice A ka.len c)).below hb1)
  have HB1 := Lib.hid (below_nx (below_a (Below.refl _ _) _) hb1)
  clear hb1
  obtain ⟨q0, q1, q2, q3, q4, q5, q6, q7, q8⟩ := HX1.out.nine
  have hl1 := HX1.out.lt
  go_wp2_with fail
  refine (Few_calls ka ha _ _ (HK.out.below HB1.out) HU.out).mono ?_
  rintro o w2 ⟨v2, rfl, hk2, hb2⟩
  obtain ⟨h2, hh2⟩ : ∃ h2, h2 = cutH ha := ⟨_, rfl⟩
  obtain ⟨K, hKK⟩ : ∃ K, K = fewK ka := ⟨_, rfl⟩
  have HD : Hid (K.deep < 900 ∧ h2.u < 18446744073709551616 ∧ AllG Gl (.cons h2 K .nil)) := Lib.hid (by rw [hKK, hh2]; exact ⟨Nat.lt_of_le_of_lt (few_deep ka) (by decide), HU.out, few_all _ ka⟩)
  rw [← hh2]
  rw [← hKK] at hk2
  have HX2 := Lib.hid (HX1.out.below hb2)
  have HB2 := Lib.hid (below_nx HB1.out hb2)
  have HKd := Lib.hid (hk2.mono (Q := fun b => w.heap.size < b) fun b hb _ => Nat.lt_of_lt_of_le hl1 hb)
  obtain ⟨A2, c2, rfl, _, _, _⟩ := hk2.form
  clear hk2 hb2 q0 q1 q2 q3 q4 q5 q6 q7 q8 HX1 HB1 hh2 hKK
  simp only [Hd.cells]
  have x := fun i => Bx.f HX2.out i
  have x0 := x 0
  have x1 := x 1
  have x2 := x 2
  have x3 := x 3
  have x4 := x 4
  have x5 := x 5
  have x6 := x 6
  have x7 := x 7
  have x8 := x 8
  clear x
  obtain ⟨y0, y1, y2, y3, y4, y5, y6, y7, y8⟩ := HX2.out.nine
  have hl2 := HX2.out.lt
  go_wp2_with fail
  obtain ⟨W3, hW3⟩ : ∃ W3, W3 = setN w2 w.heap.size h2 (.slice A2 K.len c2) := ⟨_, rfl⟩
  have HX3 : Hid (Nx W3 w.heap.size h2 (.slice A2 K.len c2)) := Lib.hid (by rw [hW3]; exact HX2.out.setN _ _)
  have HB3 : Hid (Below w.heap.size w W3) := Lib.hid (by rw [hW3]; exact below_setN HB2.out (Nat.le_refl _) _ _)
  have HK3 : Hid (Kd An W3 (.slice A2 K.len c2) K) := Lib.hid (by
    rw [hW3]
    exact (HKd.out.kept (by rw [size_setN]; exact Nat.le_refl _) fun b hb _ => setN_other (by omega)).mono fun _ _ _ => trivial)
  simp only [setN] at hW3
  rw [← hW3]
  clear hW3 x0 x1 x2 x3 x4 x5 x6 x7 x8 y0 y1 y2 y3 y4 y5 y6 y7 y8 HX2 HB2 HKd
  rw [HCutm.out]
  clear hr1
  have HSame := Lib.hid (fun (v v2 : Value) V (a : Kd An V v K) (b : Kd An V v2 K) => rSame_calls K K h2 h2 v v2 V a b)
  rw [self_hd, self_fo] at HSame
  have HZ : Hid (Calls Tryz.prog 24 #[.agg (h2.cells (.slice A2 K.len c2))] W3 (DocI h2 K W3)) := Lib.hid (Write_calls12 h2 K (.slice A2 K.len c2) W3 (tc_tv (HT.out.below HB3.out)) HK3.out HD.out.2.1 (by have := HD.out.1; omega) HD.out.2.2)
  unfold DocI docI at HZ
  by_cases hf : chk 2 h2 K = 0
  · rw [if_pos hf, hf] at HZ
    have hgu := gu_one HK3.out HD.out.2.1
    have HLl := Lib.hid (itB_le hf hgu)
    have HDc := Lib.hid (doc_plain hf hgu)
    have HIt := Lib.hid (it_back hf hgu m)
    obtain ⟨L, hL⟩ : ∃ L, L = itB h2 K := ⟨_, rfl⟩
    rw [← hL] at HZ HLl HDc HIt
    unfold arB at HZ
    have hll : L.length ≤ 122700 := HLl.out
    have HR := Lib.hid (fun V (hV : Tc V) => Read_calls11 L V hV)
    have HI := Lib.hid (fun V (hV : Tc V) => Item_calls (L ++ m) (by rw [List.length_append]; omega) V hV)
    have HCat := Lib.hid (cat_l L m)
    have HSz : Hid ((⟨L.toArray⟩ : ByteArray).size = L.length) := Lib.hid (size_l L)
    rw [HIt.out] at HI
    rw [HDc.out] at HR
    clear hf hgu hL HLl HIt HDc
    simp only [Hd.cells] at HZ
    refine HZ.out.mono ?_
    rintro o w4 ⟨rfl, hb4⟩
    have HX4 := Lib.hid (HX3.out.below hb4)
    have HB4 := Lib.hid (below_nx HB3.out hb4)
    have HK4 := Lib.hid (HK3.out.below hb4)
    clear hb4
    have hlm2 := hlm

    by_cases hlen : 4000 < L.length
    · rw [if_pos hlen] at HR
      have hlen2 : (4000 : Int) < (L.length : Int) := by omega
      clear hlen
      go_wp2_with fail
      refine (HR.out _ (HT.out.below HB4.out)).mono ?_
      rintro o w5 ⟨hb5, rfl⟩
      have HX5 := Lib.hid (HX4.out.below hb5)
      have HB5 := Lib.hid (below_nx HB4.out hb5)
      have HK5 := Lib.hid (HK4.out.below hb5)
      clear hb5
      simp only [Hd.cells, zH, Int.cast_ofNat_Int]
      go_wp2_with fail
      obtain ⟨w6, hw6⟩ : ∃ w6, w6 = w5.alloc (.cells (zH.cells (.slice none 0 0)) 28) := ⟨_, rfl⟩
      have hb6 : Below w5.heap.size w5 w6 := by rw [hw6]; exact below_a (Below.refl _ _) _
      simp only [Hd.cells, zH, Int.cast_ofNat_Int] at hw6
      rw [← hw6]
      clear hw6
      have HX6 := Lib.hid (HX5.out.below hb6)
      have HB6 := Lib.hid (below_nx HB5.out hb6)
      have HK6 := Lib.hid (HK5.out.below hb6)
      clear hb6 HX5 HX4
      rw [HCat.out]
      refine (HI.out _ (HT.out.below HB6.out)).mono ?_
      rintro o w7 ⟨hb7, v7, rfl, hk7, hu7⟩
      obtain ⟨A7, c7, rfl, _, _, _⟩ := hk7.form
      have HK7 := Lib.hid (hk7.mono (Q := An) (fun _ _ _ => trivial))
      have HKb := Lib.hid (HK6.out.below hb7)
      have HX7 := Lib.hid (HX6.out.below hb7)
      have HB7 := Lib.hid (below_nx HB6.out hb7)
      clear hb7 hk7
      obtain ⟨q0, q1, q2, q3, q4, q5, q6, q7, q8⟩ := HX7.out.nine
      have hlw := HX7.out.lt
      have hsz := HSz.out
      simp only [Hd.cells]
      go_wp2_with fail
      refine (HSame.out _ _ _ (HK7.out.below (below_a (Below.refl _ _) _)) (HKb.out.below (below_a (Below.refl _ _) _))).mono ?_
      rintro o w8 ⟨rfl, hb8⟩
      have HB8 := Lib.hid (below_nx (below_a HB7.out _) hb8)
      clear hb8 q0 q1 q2 q3 q4 q5 q6 q7 q8 hlw
      go_wp2_with fail
      go_ret
      exact ⟨rfl, HB8.out⟩
    · rw [if_neg hlen] at HR
      clear hlen
      go_wp2_with fail
      refine (HR.out _ (HT.out.below HB4.out)).mono ?_
      rintro o w5 ⟨hb5, v5, rfl, hk5, hu5⟩
      obtain ⟨A5, c5, rfl, _, _, _⟩ := hk5.form
      have HX5 := Lib.hid (HX4.out.below hb5)
      have HB5 := Lib.hid (below_nx HB4.out hb5)
      have HK5 := Lib.hid (HK4.out.below hb5)
      have HJ5 := Lib.hid (hk5.mono (Q := An) (fun _ _ _ => trivial))
      clear hb5 hk5
      simp only [Hd.cells]
      go_wp2_with fail
      obtain ⟨w6, hw6⟩ : ∃ w6, w6 = w5.alloc (.cells (h2.cells (.slice A5 K.len c5)) 28) := ⟨_, rfl⟩
      have hb6 : Below w5.heap.size w5 w6 := by rw [hw6]; exact below_a (Below.refl _ _) _
      have HN6 := Lib.hid (show Nx w6 w5.heap.size h2 (.slice A5 K.len c5) by rw [hw6]; exact Nx.new _ _ _)
      simp only [Hd.cells] at hw6
      rw [← hw6]
      clear hw6
      have HX6 := Lib.hid (HX5.out.below hb6)
      have HB6 := Lib.hid (below_nx HB5.out hb6)
      have HK6 := Lib.hid (HK5.out.below hb6)
      have HJ6 := Lib.hid (HJ5.out.below hb6)
      clear hb6 HX5 HX4
      rw [HCat.out]
      refine (HI.out _ (HT.out.below HB6.out)).mono ?_
      rintro o w7 ⟨hb7, v7, rfl, hk7, hu7⟩
      obtain ⟨A7, c7, rfl, _, _, _⟩ := hk7.form
      have HK7 := Lib.hid (hk7.mono (Q := An) (fun _ _ _ => trivial))
      have HKb := Lib.hid (HK6.out.below hb7)
      have HJ7 := Lib.hid (HJ6.out.below hb7)
      have HX7 := Lib.hid (HX6.out.below hb7)
      have HN7 := Lib.hid (HN6.out.below hb7)
      have HB7 := Lib.hid (below_nx HB6.out hb7)
      clear hb7 hk7
      simp only [Hd.cells]
      obtain ⟨w8, hw8⟩ : ∃ w8, w8 = w7.alloc (.cells (h2.cells (.slice A7 K.len c7)) 28) := ⟨_, rfl⟩
      have hb8 : Below w7.heap.size w7 w8 := by rw [hw8]; exact below_a (Below.refl _ _) _
      have HM8 := Lib.hid (show Nx w8 w7.heap.size h2 (.slice A7 K.len c7) by rw [hw8]; exact Nx.new _ _ _)
      obtain ⟨q0, q1, q2, q3, q4, q5, q6, q7, q8⟩ := HX7.out.nine
      obtain ⟨r0, r1, r2, r3, r4, r5, r6, r7, r8⟩ := HN7.out.nine
      have hlw := HX7.out.lt
      have hln := HN7.out.lt
      go_wp2_with fail
      simp only [Hd.cells] at hw8
      rw [← hw8]
      clear hw8 q0 q1 q2 q3 q4 q5 q6 q7 q8 r0 r1 r2 r3 r4 r5 r6 r7 r8 hlw hln
      refine (HSame.out _ _ _ (HJ7.out.below hb8) (HKb.out.below hb8)).mono ?_
      rintro o w9 ⟨rfl, hb9⟩
      have HB9 := Lib.hid (below_nx (below_nx HB7.out hb8) hb9)
      have HM9 := Lib.hid (HM8.out.below hb9)
      have HX9 := Lib.hid ((HX7.out.below hb8).below hb9)
      have HK9 := Lib.hid ((HK7.out.below hb8).below hb9)
      have HKc := Lib.hid ((HKb.out.below hb8).below hb9)
      clear hb8 hb9
      obtain ⟨q0, q1, q2, q3, q4, q5, q6, q7, q8⟩ := HX9.out.nine
      obtain ⟨r0, r1, r2, r3, r4, r5, r6, r7, r8⟩ := HM9.out.nine
      go_wp2_with fail
      refine (HSame.out _ _ _ HK9.out HKc.out).mono ?_
      rintro o w10 ⟨rfl, hb10⟩
      have HB10 := Lib.hid (below_nx HB9.out hb10)
      clear hb10 q0 q1 q2 q3 q4 q5 q6 q7 q8 r0 r1 r2 r3 r4 r5 r6 r7 r8
      go_wp2_with fail
      go_ret
      exact ⟨rfl, HB10.out⟩
  · rw [if_neg hf] at HZ
    obtain ⟨f, he⟩ : ∃ f, f = chk 2 h2 K := ⟨_, rfl⟩
    have hf2 : (f != 0) = true := by rw [he]; simpa using hf
    rw [← he] at HZ
    clear hf he
    simp only [Hd.cells] at HZ
    refine HZ.out.mono ?_
    rintro o w4 ⟨rfl, hb4⟩
    have HB4 := Lib.hid (below_nx HB3.out hb4)
    clear hb4
    go_wp2_with fail
    go_ret
    exact ⟨rfl, HB4.out⟩
end Go.Proofs.YtppapkpceejnkaaGreatDoor
