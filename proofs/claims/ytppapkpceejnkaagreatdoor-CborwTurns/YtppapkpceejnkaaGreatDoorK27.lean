/- The law CborwTurns. -/
import Derived.Test.YtppapkpceejnkaaGreatDoorKy
import Derived.Test.YtppapkpceejnkaaGreatDoorKz
import Derived.Test.YtppapkpceejnkaaGreatDoorK1
namespace Go.Proofs.YtppapkpceejnkaaGreatDoor
open Go.RowKit

theorem chk_cn {h : Hd} {k : Fo} (e : chk 2 h k = 0) : k.cnt ≤ 299 := by
  unfold chk at e
  split at e
  · rename_i h1
    rw [rgt, rightR, Bool.and_eq_true] at h1
    have h2 := h1.1
    simp only [decide_eq_true_eq] at h2
    omega
  · cases e
theorem doc_it {l : List UInt8} {h : Hd} {k : Fo} (hd : docR l = .ok (h, k)) : itC 1 l = .ok ((h, k), []) := by
  unfold docR at hd
  split at hd
  · cases hd
  · cases hI : itC 1 l with
    | error e => rw [hI] at hd; cases hd
    | ok y =>
      obtain ⟨⟨h', k'⟩, r⟩ := y
      rw [hI] at hd
      simp only [docS] at hd
      split at hd
      · cases hd
      · rename_i hr
        split at hd
        · cases hd
          have h0 : r = [] := by simpa using hr
          rw [h0]
        · cases hd
set_option maxRecDepth 100000 in
set_option maxHeartbeats 4000000 in
theorem turns12_calls (s : ByteArray) (w : World) (hT : Tc w) : Calls Tryz.prog 10 #[.string s] w (BolP true w) := by
  have HT := Lib.hid hT
  obtain ⟨l, hl⟩ : ∃ l, l = cutN 1000 s := ⟨_, rfl⟩
  have hcut : s.extract 0 (min (s.size : Int) 1000).toNat = ⟨l.toArray⟩ := by rw [hl]; rfl
  have hll : l.length ≤ 1000 := by rw [hl]; exact cutN_len _ _
  have HCut := Lib.hid hcut
  have hr0 : 0 ≤ min (s.size : Int) 1000 ∧ min (s.size : Int) 1000 ≤ s.size := by omega
  have HR := Lib.hid (fun V (hV : Tc V) => Read_calls11 l V hV)
  have HSz : Hid ((⟨l.toArray⟩ : ByteArray).size = l.length) := Lib.hid (size_l l)
  clear hT hl hcut
  cases hR : docR l with
  | error e =>
    have he := docR_err hR
    have he0 : ((e : Int) != 0) = true := by simpa using he
    rw [hR] at HR
    clear hR he
    go_enter Tryz.func10, Tryz.ntmps10
    go_wp2_with fail
    refine (shown12_calls _ (tc_tv HT.out)).mono ?_
    rintro o w1 ⟨rfl, hb1⟩
    have HB1 := Lib.hid hb1
    clear hb1
    go_wp2_with fail
    rw [HCut.out]
    refine (HR.out _ (HT.out.below HB1.out)).mono ?_
    rintro o w2 ⟨hb2, rfl⟩
    have HB2 := Lib.hid (below_nx HB1.out hb2)
    clear hb2
    have HX2 := Lib.hid (Nx.new w2 zH (.slice none 0 0))
    simp only [Hd.cells, zH, Int.cast_ofNat_Int] at HX2 ⊢
    obtain ⟨q0, q1, q2, q3, q4, q5, q6, q7, q8⟩ := HX2.out.nine
    go_wp2_with fail
    have HW := Lib.hid (fun V (hV : Tc V) => Write_calls12 zH .nil (.slice none 0 0) V (tc_tv hV) (.inl ⟨none, 0, rfl, rfl⟩) (by decide) (by decide) (allG_cons (gl_of (by decide)) trivial trivial))
    have hc : chk 2 zH .nil = 60 := by decide
    unfold DocI docI at HW
    rw [hc] at HW
    simp only [Hd.cells, zH, Int.cast_ofNat_Int] at HW
    refine (HW.out _ (HT.out.below (below_a HB2.out _))).mono ?_
    rintro o w3 ⟨rfl, hb3⟩
    have HB3 := Lib.hid (below_nx (below_a HB2.out _) hb3)
    clear hb3 q0 q1 q2 q3 q4 q5 q6 q7 q8
    go_wp2_with fail
    go_ret
    exact ⟨rfl, HB3.out⟩
  | ok y =>
    obtain ⟨h2, K⟩ := y
    obtain ⟨hf, hdp, hgl, _⟩ := docR_ok hR
    have HIt := Lib.hid (doc_it hR)
    have HF := Lib.hid hf
    have HD := Lib.hid (And.intro hdp hgl)
    rw [hR] at HR
    have HSame := Lib.hid (fun (v v2 : Value) V (a : Kd An V v K) (b : Kd An V v2 K) => rSame_calls K K h2 h2 v v2 V a b)
    rw [self_hd, self_fo] at HSame
    clear hR hf hdp hgl
    go_enter Tryz.func10, Tryz.ntmps10
    go_wp2_with fail
    refine (shown12_calls _ (tc_tv HT.out)).mono ?_
    rintro o w1 ⟨rfl, hb1⟩
    have HB1 := Lib.hid hb1
    clear hb1
    go_wp2_with fail
    rw [HCut.out]
    refine (HR.out _ (HT.out.below HB1.out)).mono ?_
    rintro o w2 ⟨hb2, v2, rfl, hk2, hu2⟩
    obtain ⟨A2, c2, rfl, _, _, _⟩ := hk2.form
    have HU := Lib.hid hu2
    have HB2 := Lib.hid (below_nx HB1.out hb2)
    have HX2 := Lib.hid (Nx.new w2 h2 (.slice A2 K.len c2))
    have HK2 := Lib.hid ((hk2.mono (Q := An) (fun _ _ _ => trivial)).below (below_a (Below.refl w2.heap.size w2) (.cells (h2.cells (.slice A2 K.len c2)) 28)))
    have HBa := Lib.hid (below_a HB2.out (.cells (h2.cells (.slice A2 K.len c2)) 28))
    have hgu := gu_one hk2 hu2
    have HDc := Lib.hid (doc_plain HF.out hgu)
    have HSb := Lib.hid (size_back HIt.out HF.out hgu)
    obtain ⟨L, hL⟩ : ∃ L, L = itB h2 K := ⟨_, rfl⟩
    have HZ : Hid (∀ V, Below (w2.alloc (.cells (h2.cells (.slice A2 K.len c2)) 28)).heap.size (w2.alloc (.cells (h2.cells (.slice A2 K.len c2)) 28)) V → Calls Tryz.prog 24 #[.agg (h2.cells (.slice A2 K.len c2))] V fun o w' => o = .returned (.tuple #[.string ⟨L.toArray⟩, .int .i64 0]) ∧ Below V.heap.size V w') := Lib.hid (fun V hV => by
      have := Write_calls12 h2 K (.slice A2 K.len c2) V (tc_tv ((HT.out.below HBa.out).below hV)) (HK2.out.below hV) HU.out HD.out.1 HD.out.2
      unfold DocI docI at this
      rwa [HF.out, if_pos rfl, ← hL] at this)
    rw [← hL] at HDc HSb
    have hsb := HSb.out
    have hLl : L.length ≤ 1001 := by omega
    rw [if_neg (by omega)] at HDc
    have HR2 := Lib.hid (fun V (hV : Tc V) => Read_calls11 L V hV)
    rw [HDc.out] at HR2
    have HSz2 : Hid ((⟨L.toArray⟩ : ByteArray).size = L.length) := Lib.hid (size_l L)
    obtain ⟨q0, q1, q2, q3, q4, q5, q6, q7, q8⟩ := HX2.out.nine
    have HCt := Lib.hid (fun (V : World) (hV : Kd An V (.slice A2 K.len c2) K) => rCount_calls K h2 _ V hV)
    have hcn : K.cnt ≤ 299 := chk_cn HF.out
    have hcw : wrap64 (1 + (K.cnt : Int)) = ((1 + K.cnt : Nat) : Int) := by unfold wrap64; omega
    rw [hcw] at HCt
    clear hb2 hk2 hgu hL HDc HSb hu2 HF HD HU HIt HR hcw
    simp only [Hd.cells] at HZ HCt HX2 HK2 HBa ⊢
    go_wp2_with fail
    obtain ⟨w3, hw3⟩ : ∃ w3, w3 = w2.alloc (.cells (h2.cells (.slice A2 K.len c2)) 28) := ⟨_, rfl⟩
    have hs3 : w3.heap.size = w2.heap.size + 1 := by rw [hw3, World.size_alloc]
    simp only [Hd.cells] at hw3
    rw [← hw3] at HZ HX2 HK2 HBa ⊢
    clear hw3 q0 q1 q2 q3 q4 q5 q6 q7 q8
    refine (HZ.out _ (Below.refl _ _)).mono ?_
    rintro o w4 ⟨rfl, hb4⟩
    have HX4 := Lib.hid (HX2.out.below hb4)
    have HB4 := Lib.hid (below_nx HBa.out hb4)
    have HK4 := Lib.hid (HK2.out.below hb4)
    clear hb4 hs3 HX2 HK2 HBa HZ
    go_wp2_with fail
    refine (HR2.out _ (HT.out.below HB4.out)).mono ?_
    rintro o w5 ⟨hb5, v5, rfl, hk5, hu5⟩
    obtain ⟨A5, c5, rfl, _, _, _⟩ := hk5.form
    have HX5 := Lib.hid (HX4.out.below hb5)
    have HB5 := Lib.hid (below_nx HB4.out hb5)
    have HK5 := Lib.hid (HK4.out.below hb5)
    have HJ5 := Lib.hid (hk5.mono (Q := An) (fun _ _ _ => trivial))
    clear hb5 hk5 HX4
    simp only [Hd.cells]
    obtain ⟨q0, q1, q2, q3, q4, q5, q6, q7, q8⟩ := HX5.out.nine
    have hlw := HX5.out.lt
    go_wp2_with fail
    obtain ⟨w6, hw6⟩ : ∃ w6, w6 = w5.alloc (.cells (h2.cells (.slice A5 K.len c5)) 28) := ⟨_, rfl⟩
    have hb6 : Below w5.heap.size w5 w6 := by rw [hw6]; exact below_a (Below.refl _ _) _
    simp only [Hd.cells] at hw6
    rw [← hw6]
    clear hw6 q0 q1 q2 q3 q4 q5 q6 q7 q8 hlw
    refine (HSame.out _ _ _ (HK5.out.below hb6) (HJ5.out.below hb6)).mono ?_
    rintro o w7 ⟨rfl, hb7⟩
    have HB7 := Lib.hid (below_nx (below_nx HB5.out hb6) hb7)
    have HX7 := Lib.hid ((HX5.out.below hb6).below hb7)
    have HK7 := Lib.hid ((HK5.out.below hb6).below hb7)
    clear hb6 hb7 HX5
    have hsz := HSz.out
    have hsz2 := HSz2.out
    rcases hsb with h1 | ⟨h1, h3⟩
    · have h4 : (L.length : Int) ≤ (l.length : Int) := by omega
      clear h1
      go_wp2_with fail
      go_ret
      exact ⟨rfl, HB7.out⟩
    · have h4 : ¬ (L.length : Int) ≤ (l.length : Int) := by omega
      have h5 : (256 : Int) < 1 + (K.cnt : Int) := by omega
      have h6 : (L.length : Int) = (l.length : Int) + 1 := by omega
      obtain ⟨q0, q1, q2, q3, q4, q5, q6, q7, q8⟩ := HX7.out.nine
      go_wp2_with fail
      refine (HCt.out _ HK7.out).mono ?_
      rintro o w8 ⟨rfl, hb8⟩
      have HB8 := Lib.hid (below_nx HB7.out hb8)
      clear hb8 q0 q1 q2 q3 q4 q5 q6 q7 q8
      go_wp2_with fail
      go_ret
      exact ⟨by simp, HB8.out⟩
end Go.Proofs.YtppapkpceejnkaaGreatDoor
