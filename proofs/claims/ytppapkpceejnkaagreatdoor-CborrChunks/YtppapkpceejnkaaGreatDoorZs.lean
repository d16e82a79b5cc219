/- What the laws share: the first bytes, heads as they are made. The law CborrBehind. -/
import Derived.Test.YtppapkpceejnkaaGreatDoorZq
import Derived.Test.YtppapkpceejnkaaGreatDoorYS
import Derived.Test.YtppapkpceejnkaaGreatDoorZA
import Derived.Test.YtppapkpceejnkaaGreatDoorZc
namespace Go.Proofs.YtppapkpceejnkaaGreatDoor
open Go.RowKit

/-- The first bytes. -/
def cutN (n : Nat) (s : ByteArray) : List UInt8 := (s.extract 0 (min (s.size : Int) (n : Int)).toNat).data.toList
theorem cutN_len (n : Nat) (s : ByteArray) : (cutN n s).length ≤ n := by
  unfold cutN
  rw [Array.length_toList, ByteArray.size_data, ByteArray.size_extract]
  omega
theorem self_hd (h : Hd) : sameH h h = true := by simp [sameH]
theorem self_fo : ∀ (f : Fo), sameF f f = true
  | .nil => rfl
  | .cons h k r => by rw [sameF, self_hd, self_fo k, self_fo r]; rfl
theorem bad_ne {e : Nat} (h : Bad e) : ((e : Int) != 0) = true ∧ ((e : Int) == 0) = false := by
  unfold Bad at h
  constructor
  · simp; omega
  · simp; omega
theorem make6_calls (m u : Nat) (hm : m < 8) (hu : u < 18446744073709551616) (V : World) (hV : SizT V) : Calls Tryz.prog 20 #[.int .i64 (m : Int), .int .u64 (u : Int)] V fun o w' => o = .returned (.tuple #[.string (headB m u), .int .i64 0]) ∧ Below V.heap.size V w' := by
  have h := Make_ans (m : Int) u hu V hV
  rw [mkB, mkE, if_pos (by omega), if_pos (by omega), Int.toNat_natCast] at h
  exact h
theorem cat_l (a b : List UInt8) : (⟨a.toArray⟩ : ByteArray) ++ ⟨b.toArray⟩ = ⟨(a ++ b).toArray⟩ := str_inj (by rw [app_data])
end Go.Proofs.YtppapkpceejnkaaGreatDoor
namespace Go.Proofs.YtppapkpceejnkaaGreatDoor
open Go.RowKit

theorem own_of {l : List UInt8} {h' : Hd} {k' : Fo} {r : List UInt8} (h : itC 1 l = .ok ((h', k'), r)) : ∃ p, l = p ++ r ∧ 0 < p.length ∧ (∀ t, itC 1 (p ++ t) = .ok ((h', k'), t)) ∧ ∀ q, q < p.length → itC 1 (p.take q) = .error 100 := by
  obtain ⟨p, h1, h2, h3, h4⟩ := itemL_own h
  exact ⟨p, h1, h2, h3, h4⟩
theorem ext_take (l : List UInt8) (q : Nat) (_ : q ≤ l.length) : (⟨l.toArray⟩ : ByteArray).extract 0 q = ⟨(l.take q).toArray⟩ := str_inj (by rw [Lib.extract_data]; simp)
set_option maxRecDepth 100000 in
set_option maxHeartbeats 1000000 in
theorem behind11_calls (s more : ByteArray) (at_ : Int) (W : World) (h1 : -9223372036854775808 ≤ at_) (h2 : at_ ≤ 9223372036854775807) (hT : Tc W) : Calls Tryz.prog 4 #[.string s, .string more, .int .i64 at_] W fun o W' => o = .returned (.bool true) ∧ Below W.heap.size W W' := by
  have HT := Lib.hid hT
  have HS := Lib.hid (fun V (hV : Tc V) => shown11_calls V hV)
  obtain ⟨l, hl⟩ : ∃ l, l = cutN 900 s := ⟨_, rfl⟩
  have hcut : s.extract 0 (min (s.size : Int) 900).toNat = ⟨l.toArray⟩ := by rw [hl]; rfl
  have hll : l.length ≤ 900 := by rw [hl]; exact cutN_len _ _
  obtain ⟨m, hm⟩ : ∃ m, m = cutN 900 more := ⟨_, rfl⟩
  have hcutm : more.extract 0 (min (more.size : Int) 900).toNat = ⟨m.toArray⟩ := by rw [hm]; rfl
  have hlm : m.length ≤ 900 := by rw [hm]; exact cutN_len _ _
  have HI := Lib.hid (fun V (hV : Tc V) => Item_calls l (by omega) V hV)
  have HJ := Lib.hid (fun V (hV : Tc V) => Item_calls (l ++ m) (by rw [List.length_append]; omega) V hV)
  have HCat := Lib.hid (cat_l l m)
  have HCut := Lib.hid hcut
  have HCutm := Lib.hid hcutm
  have HSz : Hid ((⟨l.toArray⟩ : ByteArray).size = l.length) := Lib.hid (size_l l)
  have hr0 : 0 ≤ min (s.size : Int) 900 ∧ min (s.size : Int) 900 ≤ s.size := by omega
  have hr1 : 0 ≤ min (more.size : Int) 900 ∧ min (more.size : Int) 900 ≤ more.size := by omega
  clear hT hl hm hcut hcutm
  cases hR : itC 1 l with
  | error e =>
    obtain ⟨b1, b2⟩ := bad_ne (itemL_err hR)
    rw [hR] at HI
    clear hR hll hlm
    go_enter Tryz.func4, Tryz.ntmps4
    go_wp2_with fail
    refine (HS.out _ HT.out).mono ?_
    rintro o w1 ⟨rfl, hb1⟩
    have HB1 := Lib.hid hb1
    clear hb1
    go_wp2_with fail
    rw [HCut.out]
    refine (HI.out _ (HT.out.below HB1.out)).mono ?_
    rintro o w2 ⟨hb2, rfl⟩
    have HB2 := Lib.hid (below_nx HB1.out hb2)
    clear hb2
    simp only [Hd.cells, zH, Int.cast_ofNat_Int]
    go_wp2
    go_ret
    exact ⟨by simp, below_a HB2.out _⟩
  | ok y =>
    obtain ⟨⟨h', k'⟩, r⟩ := y
    obtain ⟨p, hp, hp0, hO, hQ⟩ := own_of hR
    rw [hR] at HI
    rw [show itC 1 (l ++ m) = .ok ((h', k'), r ++ m) by rw [hp, List.append_assoc]; exact hO _] at HJ
    have hlr : l.length = p.length + r.length := by rw [hp, List.length_append]
    have HSame := Lib.hid (fun (v v2 : Value) V (a : Kd An V v k') (b : Kd An V v2 k') => rSame_calls k' k' h' h' v v2 V a b)
    rw [self_hd, self_fo] at HSame
    have HCat2 := Lib.hid (cat_l r m)
    have hszl : (⟨l.toArray⟩ : ByteArray).size = l.length := size_l l
    have hszr : (⟨r.toArray⟩ : ByteArray).size = r.length := size_l r
    have hszp : (⟨p.toArray⟩ : ByteArray).size = p.length := size_l p
    have hext : (⟨l.toArray⟩ : ByteArray).extract 0 p.length = ⟨p.toArray⟩ := by
      rw [ext_take _ _ (by omega), hp, List.take_left' rfl]
    have HE := Lib.hid hext
    have hin : at_ < 0 ∨ (0 ≤ at_ ∧ (p.length : Int) ≤ at_) ∨ (0 ≤ at_ ∧ at_ < p.length) := by omega
    have hge : ¬ (l.length : Int) ≤ r.length := by omega
    have HP3 := Lib.hid (fun (h : 0 ≤ at_ ∧ at_ < p.length) V (hV : Tc V) => Item_calls (p.take at_.toNat) (by rw [List.length_take]; omega) V hV)
    have HE3 := Lib.hid (fun (h : 0 ≤ at_ ∧ at_ < p.length) => (show itC 1 (p.take at_.toNat) = .error 100 from hQ _ (by omega)))
    have HX9 := Lib.hid (fun (h : 0 ≤ at_ ∧ at_ < p.length) => (show (⟨p.toArray⟩ : ByteArray).extract 0 at_.toNat = ⟨(p.take at_.toNat).toArray⟩ from ext_take _ _ (by omega)))
    clear hR hO hQ hp hext
    go_enter Tryz.func4, Tryz.ntmps4
    go_wp2_with fail
    refine (HS.out _ HT.out).mono ?_
    rintro o w1 ⟨rfl, hb1⟩
    have HB1 := Lib.hid hb1
    clear hb1
    go_wp2_with fail
    rw [HCut.out]
    refine (HI.out _ (HT.out.below HB1.out)).mono ?_
    rintro o w2 ⟨hb2, v2, rfl, hk2, hu2⟩
    obtain ⟨A2, c2, rfl, _, _, _⟩ := hk2.form
    have HK2 := Lib.hid hk2
    have HB2 := Lib.hid (below_nx HB1.out hb2)
    clear hb2 hk2
    simp only [Hd.cells]
    go_wp2_with fail
    obtain ⟨w3, hw3⟩ : ∃ w3, w3 = w2.alloc (.cells (h'.cells (.slice A2 k'.len c2)) 28) := ⟨_, rfl⟩
    have hb3 : Below w2.heap.size w2 w3 := by rw [hw3]; exact below_a (Below.refl _ _) _
    have HX3 := Lib.hid (show Nx w3 w2.heap.size h' (.slice A2 k'.len c2) by rw [hw3]; exact Nx.new _ _ _)
    have HB3 := Lib.hid (below_nx HB2.out hb3)
    have HK3 := Lib.hid ((HK2.out.below hb3).mono (Q := An) (fun _ _ _ => trivial))
    simp only [Hd.cells] at hw3
    rw [← hw3]
    clear hw3 hb3
    rw [HCutm.out, HCat.out]
    refine (HJ.out _ (HT.out.below HB3.out)).mono ?_
    rintro o w4 ⟨hb4, v4, rfl, hk4, hu4⟩
    obtain ⟨A4, c4, rfl, _, _, _⟩ := hk4.form
    have HK4 := Lib.hid (hk4.mono (Q := An) (fun _ _ _ => trivial))
    have HKa := Lib.hid (HK3.out.below hb4)
    have HXa := Lib.hid (HX3.out.below hb4)
    have HB4 := Lib.hid (below_nx HB3.out hb4)
    clear hb4 hk4
    obtain ⟨q0, q1, q2, q3, q4, q5, q6, q7, q8⟩ := HXa.out.nine
    have hlw := HXa.out.lt
    simp only [Hd.cells]
    go_wp2_with fail
    refine (HSame.out _ _ _ (HKa.out.below (below_a (Below.refl _ _) _)) (HK4.out.below (below_a (Below.refl _ _) _))).mono ?_
    rintro o w5 ⟨rfl, hb5⟩
    have HB5 := Lib.hid (below_nx (below_a HB4.out _) hb5)
    have hcat2 := HCat2.out
    have hext := HE.out
    clear hb5 q0 q1 q2 q3 q4 q5 q6 q7 q8 hlw
    rcases hin with hlt | ⟨h0, hge2⟩ | ⟨h0, hlt⟩
    · clear h1
      go_wp2_with fail
      go_ret
      exact ⟨rfl, HB5.out⟩
    · go_wp2_with fail
      go_ret
      exact ⟨rfl, HB5.out⟩
    · have HR3 := HP3.out ⟨h0, hlt⟩
      rw [HE3.out ⟨h0, hlt⟩] at HR3
      have HR3 := Lib.hid HR3
      have hx9 := HX9.out ⟨h0, hlt⟩
      go_wp2_with fail
      refine (HR3.out _ (HT.out.below HB5.out)).mono ?_
      rintro o w6 ⟨hb6, rfl⟩
      have HB6 := Lib.hid (below_nx HB5.out hb6)
      clear hb6
      simp only [Hd.cells, zH, Int.cast_ofNat_Int]
      go_wp2
      go_ret
      exact ⟨by simp, below_a HB6.out _⟩
end Go.Proofs.YtppapkpceejnkaaGreatDoor
