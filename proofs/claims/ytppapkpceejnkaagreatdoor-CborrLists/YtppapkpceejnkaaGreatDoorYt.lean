/- What the laws share: the first bytes, heads as they are made. The law CborrLists. -/
import Derived.Test.YtppapkpceejnkaaGreatDoorZq
import Derived.Test.YtppapkpceejnkaaGreatDoorYS
import Derived.Test.YtppapkpceejnkaaGreatDoorZc
import Derived.Test.YtppapkpceejnkaaGreatDoorZA
import Derived.BigRegion
import Derived.Deep.QuietTactic
import Derived.BigQuiet
namespace Go.Proofs.YtppapkpceejnkaaGreatDoor
open Go.RowKit

/-- The first bytes. -/
def cutN (n : Nat) (s : ByteArray) : List UInt8 := (s.extract 0 (min (s.size : Int) (n : Int)).toNat).data.toList
theorem cutN_len (n : Nat) (s : ByteArray) : (cutN n s).length ≤ n := by
  unfold cutN
  rw [Array.length_toList, ByteArray.size_data, ByteArray.size_extract]
  omega
theorem self_hd (h : Hd) : sameH h h = true := by simp [sameH]
theorem self_fo : ∀ (f : Fo), sameF f f = true
  | .nil => rfl
  | .cons h k r => by rw [sameF, self_hd, self_fo k, self_fo r]; rfl
theorem bad_ne {e : Nat} (h : Bad e) : ((e : Int) != 0) = true ∧ ((e : Int) == 0) = false := by
  unfold Bad at h
  constructor
  · simp; omega
  · simp; omega
theorem make6_calls (m u : Nat) (hm : m < 8) (hu : u < 18446744073709551616) (V : World) (hV : SizT V) : Calls Tryz.prog 20 #[.int .i64 (m : Int), .int .u64 (u : Int)] V fun o w' => o = .returned (.tuple #[.string (headB m u), .int .i64 0]) ∧ Below V.heap.size V w' := by
  have h := Make_ans (m : Int) u hu V hV
  rw [mkB, mkE, if_pos (by omega), if_pos (by omega), Int.toNat_natCast] at h
  exact h
theorem cat_l (a b : List UInt8) : (⟨a.toArray⟩ : ByteArray) ++ ⟨b.toArray⟩ = ⟨(a ++ b).toArray⟩ := str_inj (by rw [app_data])
theorem ext_take (l : List UInt8) (q : Nat) (_ : q ≤ l.length) : (⟨l.toArray⟩ : ByteArray).extract 0 q = ⟨(l.take q).toArray⟩ := str_inj (by rw [Lib.extract_data]; simp)
end Go.Proofs.YtppapkpceejnkaaGreatDoor
namespace Go.Proofs.YtppapkpceejnkaaGreatDoor
open Go.RowKit

/-- Texts, as they lie. -/
def Kt (w : World) (v : Value) (ks : List ByteArray) : Prop := ∃ A c, v = .slice A ks.length c ∧ ks.length ≤ 9223372036854775807 ∧ (ks.length ≠ 0 → ∃ B o, A = some ⟨B, o, none⟩ ∧ B < w.heap.size ∧ ∀ i s, ks[i]? = some s → w.cell? ⟨B, o + i, none⟩ = some (.string s)) ∧ ∀ s ∈ ks, s.size ≤ 9223372036854775807
theorem allB_app : ∀ (a b : List (List UInt8 × (Hd × Fo))), allB (a ++ b) = allB a ++ allB b
  | [], _ => rfl
  | i :: r, b => by rw [List.cons_append, allB, allB, allB_app r b, List.append_assoc]
theorem foI_app : ∀ (a : List (List UInt8 × (Hd × Fo))) (p : List UInt8) (h : Hd) (k : Fo), foI (a ++ [(p, (h, k))]) = (foI a).app (.cons h k .nil)
  | [], _, _, _ => rfl
  | i :: r, p, h, k => by rw [List.cons_append, foI, foI, foI_app r p h k, Fo.app]
theorem foI_len : ∀ (a : List (List UInt8 × (Hd × Fo))), (foI a).len = a.length
  | [] => rfl
  | i :: r => by rw [foI, Fo.len, foI_len r, List.length_cons]
theorem deep_app2 {n : Nat} : ∀ (f : Fo) {h : Hd} {k : Fo}, f.deep ≤ n → k.deep + 1 ≤ n → (f.app (.cons h k .nil)).deep ≤ n
  | .nil, h, k, _, h2 => by simp only [Fo.app, Fo.deep]; omega
  | .cons a b r, h, k, h1, h2 => by
    simp only [Fo.deep] at h1
    have := deep_app2 r (h := h) (k := k) (by omega) h2
    simp only [Fo.app, Fo.deep]
    omega
/-- Items that stand by themselves. -/
def Its (its : List (List UInt8 × (Hd × Fo))) : Prop := (∀ i ∈ its, Own (itemL FC tgC 1) i.1 i.2) ∧ (foI its).deep ≤ 200
theorem its_more {its : List (List UInt8 × (Hd × Fo))} {l p r : List UInt8} {h : Hd} {k : Fo} (hI : Its its) (hl : l.length ≤ 100) (hR : itC 1 l = .ok ((h, k), r)) (hO : Own (itemL FC tgC 1) p (h, k)) : Its (its ++ [(p, (h, k))]) := by
  have hc := itemL_cnt hR
  have hd := deep_cnt k
  simp only at hc
  refine ⟨fun i hi => ?_, ?_⟩
  · rcases List.mem_append.1 hi with h1 | h1
    · exact hI.1 i h1
    · rw [List.mem_singleton] at h1
      rw [h1]; exact hO
  · rw [foI_app]
    exact deep_app2 _ hI.2 (by omega)
theorem its_def {its : List (List UInt8 × (Hd × Fo))} (hI : Its its) (hn : its.length < 18446744073709551616) : itC 1 (headL 4 its.length ++ allB its) = if 1 + (foI its).deep ≤ 16 then .ok ((arrC, foI its), []) else .error 60 := by
  have := arr_def (F := FC) (tg := tgC) its [] hI.1 hn
  rw [List.append_nil] at this
  exact this
theorem its_open {its : List (List UInt8 × (Hd × Fo))} (hI : Its its) : itC 1 (159 :: (allB its ++ [255])) = if 1 + (foI its).deep ≤ 16 then .ok ((arrC, foI its), []) else .error 60 :=
  arr_open (F := FC) (tg := tgC) (fun _ => rfl) its [] hI.1
theorem cat_open (X : List UInt8) : (⟨#[159]⟩ : ByteArray) ++ ⟨X.toArray⟩ ++ ⟨#[255]⟩ = ⟨(159 :: (X ++ [255])).toArray⟩ := by
  rw [show (⟨#[159]⟩ : ByteArray) = ⟨[159].toArray⟩ from rfl, show (⟨#[255]⟩ : ByteArray) = ⟨[255].toArray⟩ from rfl, cat_l, cat_l]
  rfl
set_option maxRecDepth 100000 in
set_option maxHeartbeats 4000000 in
theorem lists11_calls (ks : List ByteArray) (v : Value) (w : World) (hks : Kt w v ks) (hT : Tc w) : Calls Tryz.prog 5 #[v] w fun o W' => o = .returned (.bool true) ∧ Below w.heap.size w W' := by
  obtain ⟨A', c', rfl, hkl, hkc, hkz⟩ := hks
  have HT := Lib.hid hT
  have HS := Lib.hid (fun V (hV : Tc V) => shown11_calls V hV)
  have HKc := Lib.hid hkc
  have HKz := Lib.hid hkz
  clear hT hkc hkz
  go_enter Tryz.func5, Tryz.ntmps5
  go_wp2_with fail
  refine (HS.out _ HT.out).mono ?_
  rintro o w1 ⟨rfl, hb1⟩
  have HB1 := Lib.hid hb1
  clear hb1
  obtain ⟨i0, hi0, hz0, hz1, hz2⟩ := infoN_parts
  have I0 := Lib.hid hi0
  have I1 := Lib.hid hz0
  have I2 := Lib.hid hz1
  have I3 := Lib.hid hz2
  clear hi0 hz0 hz1 hz2
  go_wp2_with fail
  go_loopw [4, 5, 6] (fun x0 al i wr => ∃ (x : Value) (j m : Nat) (its : List (List UInt8 × (Hd × Fo))) (X : List UInt8) (xs : List Value), x = x0 ∧ i = .int .i64 j ∧ j ≤ ks.length ∧ j ≤ 8 ∧ X = allB its ∧ al = .string ⟨X.toArray⟩ ∧ X.length ≤ 100 * j ∧ m = its.length ∧ m ≤ j ∧ Its its ∧ wr.ownsRow w1.heap.size 28 9 x m xs ∧ Rw (fun b => w1.heap.size ≤ b ∧ x.ownBlock ≠ some b) wr (foI its) xs ∧ Below w.heap.size w wr ∧ w1.heap.size ≤ wr.heap.size) (fun _ _ i _ => ks.length - (intOf i).toNat)
  case atStart => exact ⟨_, 0, 0, [], [], [], rfl, rfl, Nat.zero_le _, by omega, rfl, rfl, by simp, rfl, Nat.le_refl _, ⟨fun i hi => (by cases hi), by decide⟩, World.ownsRow_nil _ _ _ _, rfl, HB1.out, Nat.le_refl _⟩
  case round =>
    obtain ⟨x, j, m, its, X, xs, rfl, rfl, hj, hj8, hX, rfl, hXl, hm, hmj, hits, hown, hrw, hb, hsz1⟩ := hrel
    have HXX := Lib.hid hX
    have HMm := Lib.hid hm
    have HIt := Lib.hid hits
    have HO := Lib.hid hown
    have HR := Lib.hid hrw
    have HB := Lib.hid hb
    clear hX hm hits hown hrw hb
    have hszX : (⟨X.toArray⟩ : ByteArray).size = X.length := size_l X
    by_cases hgo : j < ks.length ∧ j < 8
    · obtain ⟨g1, g2⟩ := hgo
      obtain ⟨B, o, rfl, hB, hcs⟩ := HKc.out (by omega)
      obtain ⟨s0, hs0⟩ : ∃ s0, s0 = ks[j] := ⟨_, rfl⟩
      have d0 : wr.cell? ⟨B, o + j, none⟩ = some (.string s0) := by
        have h1 := hcs j s0 (by rw [hs0]; exact List.getElem?_eq_getElem g1)
        exact (HB.out.cell (p := ⟨B, o + j, none⟩) hB).trans h1
      have d1 : (wr.drew).cell? ⟨B, o + j, none⟩ = some (.string s0) := d0
      have hsz : s0.size ≤ 9223372036854775807 := HKz.out s0 (by rw [hs0]; exact List.getElem_mem _)
      obtain ⟨m1, hm1⟩ : ∃ m1, m1 = min s0.size 100 := ⟨_, rfl⟩
      have e1 : min (s0.size : Int) 100 = (m1 : Int) := by omega
      have l1 : m1 ≤ s0.size := by omega
      have HL1 := Lib.hid (show m1 ≤ 100 by omega)
      clear hs0 hm1 hcs
      go_wp2_with fail
      go_region
      obtain ⟨l, hl⟩ : ∃ l, l = (s0.extract 0 m1).data.toList := ⟨_, rfl⟩
      have hll : l.length ≤ 100 := by
        have := HL1.out
        rw [hl, Array.length_toList, ByteArray.size_data, ByteArray.size_extract]
        omega
      rw [show s0.extract 0 m1 = ⟨l.toArray⟩ by rw [hl]]
      obtain ⟨W1, hW1⟩ : ∃ W1, W1 = wr.drew := ⟨_, rfl⟩
      have HBk : Hid (Below wr.heap.size wr W1) := Lib.hid (by rw [hW1]; exact (Below.refl _ _).drew)
      rw [← hW1]
      clear hW1 hl d0 d1 e1 l1 hsz HL1
      have HI := Lib.hid (Item_calls l (by omega) W1 (HT.out.below (below_nx HB.out HBk.out)))
      cases hR : itC 1 l with
      | error e =>
        obtain ⟨b1, b2⟩ := bad_ne (itemL_err hR)
        rw [hR] at HI
        clear hR
        go_wp2_with fail
        refine HI.out.mono ?_
        rintro o w2 ⟨hb2, rfl⟩
        have HB2 := Lib.hid (HBk.out.trans (hb2.mono HBk.out.size))
        clear hb2
        simp only [Hd.cells, zH, Int.cast_ofNat_Int]
        go_wp2_with fail
        go_roundw
        case measure => simp [intOf]; omega
        case rel =>
          exact ⟨x, j + 1, m, its, X, xs, rfl, by go_num, g1, by omega, HXX.out, rfl, by omega, HMm.out, by omega, HIt.out, owns_below HO.out (below_a HB2.out _), Rw.kept (below_a HB2.out _).size (fun b h1 h2 => (below_a HB2.out _).block b h2) HR.out, below_nx HB.out (below_a HB2.out _), Nat.le_trans hsz1 (below_a HB2.out _).size⟩
      | ok y =>
        obtain ⟨⟨h', k'⟩, r⟩ := y
        obtain ⟨p, hp, hp0, hO⟩ := itemL_own hR
        have HM1 := Lib.hid (its_more HIt.out hll hR hO)
        rw [hR] at HI
        have hlr : l.length = p.length + r.length := by rw [hp, List.length_append]
        have hszl : (⟨l.toArray⟩ : ByteArray).size = l.length := size_l l
        have hszr : (⟨r.toArray⟩ : ByteArray).size = r.length := size_l r
        have HE : Hid ((⟨l.toArray⟩ : ByteArray).extract 0 p.length = ⟨p.toArray⟩) := Lib.hid (by
          rw [ext_take _ _ (by omega), hp, List.take_left' rfl])
        have hszp : (⟨p.toArray⟩ : ByteArray).size = p.length := size_l p
        have HCt := Lib.hid (cat_l X p)
        clear hR hO hp
        go_wp2_with fail
        refine HI.out.mono ?_
        rintro o w2 ⟨hb2, v2, rfl, hk2, hu2⟩
        obtain ⟨A2, c2, rfl, _, _, _⟩ := hk2.form
        have HB2 := Lib.hid (HBk.out.trans (hb2.mono HBk.out.size))
        have HK2 : Hid (Kd (fun b => wr.heap.size ≤ b) w2 (.slice A2 k'.len c2) k') := Lib.hid (hk2.mono fun b h1 _ => Nat.le_trans HBk.out.size h1)
        have HU2 := Lib.hid hu2
        clear hb2 hk2 hu2
        obtain ⟨w3, hw3⟩ : ∃ w3, w3 = w2.alloc (.cells (h'.cells (.slice A2 k'.len c2)) 28) := ⟨_, rfl⟩
        have HB3 : Hid (Below wr.heap.size wr w3) := Lib.hid (by rw [hw3]; exact below_a HB2.out _)
        have HK3 : Hid (Kd (fun b => wr.heap.size ≤ b) w3 (.slice A2 k'.len c2) k') := Lib.hid (by rw [hw3]; exact HK2.out.below (below_a (Below.refl _ _) _))
        have HS3 : Hid (w2.heap.size + 1 = w3.heap.size) := Lib.hid (by rw [hw3, World.size_alloc])
        simp only [Hd.cells] at hw3 ⊢
        have HW3 := Lib.hid hw3
        clear hw3
        go_wp2_with (
          at_builtin
          go_loud (rw [← HW3.out])
          go_loud (try rw [HS3.out])
          go_loud (refine wpList_append_lies _ rfl (.tmp 50) (.tmp 52) 26 rfl w1.heap.size 28 i0 _ 9 104 Tryz.underlying26 I0.out I1.out I2.out I3.out rfl (by decide) x m xs rfl ((owns_below HO.out HB3.out).alloc _) ⟨w3.heap.size, 0, none⟩ 1 1 ((h'.cells (.slice A2 k'.len c2)).toList) rfl rfl (news_blk (h'.cells (.slice A2 k'.len c2)) (heap_alloc_new w3 _)) (by intro u hu; simp [Hd.cells] at hu; rcases hu with rfl | rfl | rfl | rfl | rfl | rfl | rfl | rfl | rfl <;> rfl) (by decide) (by unfold maxLen; omega) (by omega) (by have := HB3.out.size; simp; omega) _ rfl ?_)
          intro g cp w4 hown4 hg4 hl4 hlt4
          go_loud (have HF1 := Lib.hid (rw_step (m := m + 1) (cp := cp) HB3.out HR.out HO.out HK3.out hg4 hl4 hsz1 HU2.out))
          have HF2 : w1.heap.size ≤ w4.heap.size := by
            have h8 := hg4.size
            rw [World.size_alloc] at h8
            have := HB3.out.size
            omega
          go_loud (have HF3 : Below w.heap.size w w4 := (below_a (below_nx HB.out HB3.out) _).grown hg4 (by rw [World.size_alloc]; have := HB3.out.size; have := HB1.out.size; omega) (fun r e => by have := (owns_block HO.out e).1; have := HB1.out.size; omega))
          have HF := Lib.hid (And.intro hown4 (And.intro HF1.out (And.intro HF3 HF2)))
          clear HF2 HF3
          have hext := HE.out
          clear hown4 hg4 hl4 hlt4)
        go_roundw
        case measure => simp [intOf]; omega
        case rel =>
          refine ⟨_, j + 1, m + 1, its ++ [(p, (h', k'))], X ++ p, _, rfl, by go_num, g1, by omega, ?_, ?_, ?_, ?_, by omega, HM1.out, HF.out.1, ?_, HF.out.2.2⟩
          · rw [allB_app, HXX.out]; simp [allB]
          · rw [← HCt.out]
          · rw [List.length_append]; omega
          · rw [List.length_append, HMm.out]; rfl
          · rw [foI_app]; exact HF.out.2.1
    · obtain ⟨A5, c5, rfl⟩ : ∃ A5 c5, x = .slice A5 m c5 := by
        obtain ⟨_, ⟨h, h'⟩ | ⟨g, cap, cur, h, _⟩⟩ := HO.out
        · exact ⟨none, 0, by rw [h, h']⟩
        · exact ⟨_, _, h⟩
      have HD1 := Lib.hid (its_def HIt.out (by have := HMm.out; omega))
      have HD2 := Lib.hid (its_open HIt.out)
      have HGl := Lib.hid (foI_len its)
      have HGd := Lib.hid HIt.out.2
      rw [← HXX.out, ← HMm.out] at HD1
      rw [← HXX.out] at HD2
      rw [← HMm.out] at HGl
      obtain ⟨G, hG⟩ : ∃ G, G = foI its := ⟨_, rfl⟩
      rw [← hG] at HD1 HD2 HGl HGd HR
      have HKx : Hid (Kd An wr (.slice A5 m c5) G) := Lib.hid (by
        have hR := HR.out
        have hO := HO.out
        have hM := HGl.out
        rw [← hM] at hO ⊢
        have hK := kd_of_owns (P := fun b => w1.heap.size ≤ b) hO (hR.mono fun b h1 _ => h1.1) (fun b h1 _ => (owns_block hO h1).1) (by omega)
        exact hK.mono fun _ _ _ => trivial)
      have HJ := Lib.hid (fun V (hV : Tc V) => Item_calls (headL 4 m ++ X) (by rw [List.length_append, headL_len]; have := hext_le m; omega) V hV)
      have HK := Lib.hid (fun V (hV : Tc V) => Item_calls (159 :: (X ++ [255])) (by rw [List.length_cons, List.length_append, List.length_cons, List.length_nil]; omega) V hV)
      rw [HD1.out] at HJ
      rw [HD2.out] at HK
      have HMk := Lib.hid (fun V (hV : Tc V) => make6_calls 4 m (by decide) (by omega) V hV.2.1)
      have HCa : Hid (headB 4 m ++ (⟨X.toArray⟩ : ByteArray) = ⟨(headL 4 m ++ X).toArray⟩) := Lib.hid (cat_l (headL 4 m) X)
      have HCb := Lib.hid (cat_open X)
      have hsn : (headB 4 m).size ≤ 9 := by rw [headB_size]; have := hext_le m; omega
      have HSame := Lib.hid (fun (v v2 : Value) V (a : Kd An V v G) (b : Kd An V v2 G) => rSame_calls G G arrC arrC v v2 V a b)
      rw [self_hd, self_fo] at HSame
      have HDp := Lib.hid (fun (v : Value) V (a : Kd An V v G) => rDepth_calls G arrC v V (by have := HGd.out; omega) a)
      have hGm := HGl.out
      obtain ⟨hB0, hhB⟩ : ∃ b, b = headB 4 m := ⟨_, rfl⟩
      rw [← hhB] at HMk HCa hsn
      clear hG HO HR HD1 HD2 HXX HMm HIt hhB
      subst hGm
      have hend : (¬ (j : Int) < (ks.length : Int)) ∨ ((j : Int) < (ks.length : Int) ∧ ¬ (j : Int) < 8) := by omega
      by_cases hdp : 1 + G.deep ≤ 16
      · rw [if_pos hdp] at HJ HK
        clear hdp
        rcases hend with h1 | ⟨h1, h2⟩
        all_goals
          go_wp2_with fail
          refine (HMk.out _ (HT.out.below HB.out)).mono ?_
          rintro o w3 ⟨rfl, hb3⟩
          have HB3 := Lib.hid (below_nx HB.out hb3)
          have HKx3 := Lib.hid (HKx.out.below hb3)
          clear hb3
          go_wp2_with fail
          rw [HCa.out]
          refine (HJ.out _ (HT.out.below HB3.out)).mono ?_
          rintro o w4 ⟨hb4, v4, rfl, hk4, hu4⟩
          obtain ⟨A4, c4, rfl, _, _, _⟩ := hk4.form
          have HB4 := Lib.hid (below_nx HB3.out hb4)
          have HKx4 := Lib.hid (HKx3.out.below hb4)
          have HJ4 := Lib.hid (hk4.mono (Q := An) (fun _ _ _ => trivial))
          clear hb4 hk4
          simp only [Hd.cells, arrC]
          go_wp2_with fail
          obtain ⟨w5, hw5⟩ : ∃ w5, w5 = w4.alloc (.cells (arrC.cells (.slice A4 G.len c4)) 28) := ⟨_, rfl⟩
          have hb5 : Below w4.heap.size w4 w5 := by rw [hw5]; exact below_a (Below.refl _ _) _
          have HN5 := Lib.hid (show Nx w5 w4.heap.size arrC (.slice A4 G.len c4) by rw [hw5]; exact Nx.new _ _ _)
          simp only [Hd.cells, arrC, Int.cast_ofNat_Int] at hw5
          rw [← hw5]
          clear hw5
          have HB5 := Lib.hid (below_nx HB4.out hb5)
          have HKx5 := Lib.hid (HKx4.out.below hb5)
          have HJ5 := Lib.hid (HJ4.out.below hb5)
          clear hb5
          rw [HCb.out]
          refine (HK.out _ (HT.out.below HB5.out)).mono ?_
          rintro o w6 ⟨hb6, v6, rfl, hk6, hu6⟩
          obtain ⟨A6, c6, rfl, _, _, _⟩ := hk6.form
          have HB6 := Lib.hid (below_nx HB5.out hb6)
          have HKx6 := Lib.hid (HKx5.out.below hb6)
          have HJ6 := Lib.hid (HJ5.out.below hb6)
          have HI6 := Lib.hid (hk6.mono (Q := An) (fun _ _ _ => trivial))
          have HN6 := Lib.hid (HN5.out.below hb6)
          clear hb6 hk6
          simp only [Hd.cells, arrC]
          obtain ⟨w7, hw7⟩ : ∃ w7, w7 = w6.alloc (.cells (arrC.cells (.slice A6 G.len c6)) 28) := ⟨_, rfl⟩
          have hb7 : Below w6.heap.size w6 w7 := by rw [hw7]; exact below_a (Below.refl _ _) _
          have HS7 := Lib.hid (show w7.heap.size = w6.heap.size + 1 by rw [hw7, World.size_alloc])
          have HM7 := Lib.hid (show Nx w7 w6.heap.size arrC (.slice A6 G.len c6) by rw [hw7]; exact Nx.new _ _ _)
          obtain ⟨w8, hw8⟩ : ∃ w8, w8 = w7.alloc (.cells (arrC.cells (.slice A5 G.len c5)) 28) := ⟨_, rfl⟩
          have hb8 : Below w7.heap.size w7 w8 := by rw [hw8]; exact below_a (Below.refl _ _) _
          have HM8 := Lib.hid (show Nx w8 w7.heap.size arrC (.slice A5 G.len c5) by rw [hw8]; exact Nx.new _ _ _)
          have HW7 := Lib.hid hw7
          have HW8 := Lib.hid hw8
          have HBb : Hid (Below w6.heap.size w6 w8) := Lib.hid (below_nx hb7 hb8)
          have HMb := Lib.hid (HM7.out.below hb8)
          have HN8 := Lib.hid (HN6.out.below HBb.out)
          clear hw7 hw8 hb7 hb8
          obtain ⟨q0, q1, q2, q3, q4, q5, q6, q7, q8⟩ := HN6.out.nine
          have hlw := HN6.out.lt
          go_wp2_with fail
          have hw7 := HW7.out
          have hw8 := HW8.out
          simp only [Hd.cells, arrC, Int.cast_ofNat_Int] at hw7 hw8
          rw [← hw7, ← hw8]
          clear hw7 hw8 HW7 HW8 q0 q1 q2 q3 q4 q5 q6 q7 q8 hlw
          refine (HSame.out _ _ _ (HJ6.out.below HBb.out) (HKx6.out.below HBb.out)).mono ?_
          rintro o w9 ⟨rfl, hb9⟩
          have HB9 := Lib.hid (below_nx (below_nx HB6.out HBb.out) hb9)
          have HP9 := Lib.hid (HMb.out.below hb9)
          have HQ9 : Hid (Nx w9 (w6.heap.size + 1) arrC (.slice A5 G.len c5)) := Lib.hid (by rw [← HS7.out]; exact HM8.out.below hb9)
          have HI9 := Lib.hid ((HI6.out.below HBb.out).below hb9)
          have HKx9 := Lib.hid ((HKx6.out.below HBb.out).below hb9)
          clear hb9
          obtain ⟨q0, q1, q2, q3, q4, q5, q6, q7, q8⟩ := HP9.out.nine
          obtain ⟨r0, r1, r2, r3, r4, r5, r6, r7, r8⟩ := HQ9.out.nine
          go_wp2_with fail
          refine (HSame.out _ _ _ HI9.out HKx9.out).mono ?_
          rintro o w10 ⟨rfl, hb10⟩
          have HB10 := Lib.hid (below_nx HB9.out hb10)
          clear hb10 q0 q1 q2 q3 q4 q5 q6 q7 q8 r0 r1 r2 r3 r4 r5 r6 r7 r8
          go_wp2_with fail
          go_ret
          exact ⟨rfl, HB10.out⟩
      · rw [if_neg hdp] at HJ HK
        have hdg : (16 : Int) < ((G.deep + 1 : Nat) : Int) := by omega
        clear hdp
        rcases hend with h1 | ⟨h1, h2⟩
        all_goals
          go_wp2_with fail
          refine (HMk.out _ (HT.out.below HB.out)).mono ?_
          rintro o w3 ⟨rfl, hb3⟩
          have HB3 := Lib.hid (below_nx HB.out hb3)
          have HKx3 := Lib.hid (HKx.out.below hb3)
          clear hb3
          go_wp2_with fail
          rw [HCa.out]
          refine (HJ.out _ (HT.out.below HB3.out)).mono ?_
          rintro o w4 ⟨hb4, rfl⟩
          have HB4 := Lib.hid (below_nx HB3.out hb4)
          have HKx4 := Lib.hid (HKx3.out.below hb4)
          clear hb4
          simp only [Hd.cells, zH, Int.cast_ofNat_Int]
          go_wp2_with fail
          rw [HCb.out]
          refine (HK.out _ (HT.out.below (below_a HB4.out _))).mono ?_
          rintro o w6 ⟨hb6, rfl⟩
          have HB6 := Lib.hid (below_nx (below_a HB4.out _) hb6)
          have HKx6 := Lib.hid ((HKx4.out.below (below_a (Below.refl _ _) _)).below hb6)
          clear hb6
          simp only [Hd.cells, zH, Int.cast_ofNat_Int]
          go_wp2_with fail
          refine (HDp.out _ _ ((HKx6.out.below (below_a (Below.refl _ _) _)).below (below_a (Below.refl _ _) _))).mono ?_
          rintro o w9 ⟨rfl, hb9⟩
          have HB9 := Lib.hid (below_nx (below_a (below_a HB6.out _) _) hb9)
          clear hb9
          go_wp2_with fail
          go_ret
          exact ⟨rfl, HB9.out⟩
end Go.Proofs.YtppapkpceejnkaaGreatDoor
