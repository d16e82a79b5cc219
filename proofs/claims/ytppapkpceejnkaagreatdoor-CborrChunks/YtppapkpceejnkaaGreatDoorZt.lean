/- What the laws share: the first bytes, heads as they are made. The law CborrChunks. -/
import Derived.Test.YtppapkpceejnkaaGreatDoorZq
import Derived.Test.YtppapkpceejnkaaGreatDoorYS
import Derived.Test.YtppapkpceejnkaaGreatDoorZc
namespace Go.Proofs.YtppapkpceejnkaaGreatDoor
open Go.RowKit

/-- The first bytes. -/
def cutN (n : Nat) (s : ByteArray) : List UInt8 := (s.extract 0 (min (s.size : Int) (n : Int)).toNat).data.toList
theorem cutN_len (n : Nat) (s : ByteArray) : (cutN n s).length ≤ n := by
  unfold cutN
  rw [Array.length_toList, ByteArray.size_data, ByteArray.size_extract]
  omega
theorem self_hd (h : Hd) : sameH h h = true := by simp [sameH]
theorem self_fo : ∀ (f : Fo), sameF f f = true
  | .nil => rfl
  | .cons h k r => by rw [sameF, self_hd, self_fo k, self_fo r]; rfl
theorem bad_ne {e : Nat} (h : Bad e) : ((e : Int) != 0) = true ∧ ((e : Int) == 0) = false := by
  unfold Bad at h
  constructor
  · simp; omega
  · simp; omega
theorem make6_calls (m u : Nat) (hm : m < 8) (hu : u < 18446744073709551616) (V : World) (hV : SizT V) : Calls Tryz.prog 20 #[.int .i64 (m : Int), .int .u64 (u : Int)] V fun o w' => o = .returned (.tuple #[.string (headB m u), .int .i64 0]) ∧ Below V.heap.size V w' := by
  have h := Make_ans (m : Int) u hu V hV
  rw [mkB, mkE, if_pos (by omega), if_pos (by omega), Int.toNat_natCast] at h
  exact h
theorem cat_l (a b : List UInt8) : (⟨a.toArray⟩ : ByteArray) ++ ⟨b.toArray⟩ = ⟨(a ++ b).toArray⟩ := str_inj (by rw [app_data])
theorem ext_take (l : List UInt8) (q : Nat) (_ : q ≤ l.length) : (⟨l.toArray⟩ : ByteArray).extract 0 q = ⟨(l.take q).toArray⟩ := str_inj (by rw [Lib.extract_data]; simp)
end Go.Proofs.YtppapkpceejnkaaGreatDoor
namespace Go.Proofs.YtppapkpceejnkaaGreatDoor
open Go.RowKit

/-- Numbers, as they lie. -/
def Kz (w : World) (v : Value) (zs : List Int) : Prop := ∃ A c, v = .slice A zs.length c ∧ zs.length ≤ 9223372036854775807 ∧ (zs.length ≠ 0 → ∃ B o, A = some ⟨B, o, none⟩ ∧ B < w.heap.size ∧ ∀ i z, zs[i]? = some z → w.cell? ⟨B, o + i, none⟩ = some (.int .i64 z)) ∧ ∀ z ∈ zs, -9223372036854775808 ≤ z ∧ z ≤ 9223372036854775807
/-- How many bytes a chunk is to have. -/
def kz (z : Int) : Nat := ((z % 18446744073709551616) % 41).toNat
/-- So many chunks, and what is left. -/
def stJ (m : Nat) : List Nat → List UInt8 → List UInt8 × List UInt8
  | [], r => ([], r)
  | k :: ks, r => (headL m (r.take k).length ++ (r.take k ++ (stJ m ks (r.drop k)).1), (stJ m ks (r.drop k)).2)
theorem stJ_snoc (m : Nat) : ∀ (ks : List Nat) (r : List UInt8) (k : Nat), stJ m (ks ++ [k]) r = ((stJ m ks r).1 ++ (headL m ((stJ m ks r).2.take k).length ++ (stJ m ks r).2.take k), (stJ m ks r).2.drop k)
  | [], r, k => by simp [stJ]
  | q :: ks, r, k => by
    rw [List.cons_append, stJ, stJ_snoc m ks _ k, stJ]
    simp
theorem stJ_parts (m : Nat) : ∀ (ks : List Nat) (r : List UInt8), chB m (partsL ks r) = (stJ m ks r).1 ++ (headL m (stJ m ks r).2.length ++ (stJ m ks r).2)
  | [], r => by simp [stJ, partsL, chB]
  | k :: ks, r => by
    rw [partsL, chB, stJ_parts m ks, stJ]
    simp
theorem stJ_len (m : Nat) : ∀ (ks : List Nat) (r : List UInt8), (stJ m ks r).1.length + (stJ m ks r).2.length ≤ 9 * ks.length + r.length
  | [], r => by simp [stJ]
  | k :: ks, r => by
    have h1 := stJ_len m ks (r.drop k)
    have h2 := headL_len m (r.take k).length
    have h3 := hext_le (r.take k).length
    rw [stJ]
    simp only [List.length_append, List.length_cons, List.length_drop, List.length_take] at *
    omega
theorem take_min (l : List UInt8) (k : Nat) : l.take (min l.length k) = l.take k := by
  rcases Nat.le_total l.length k with h | h
  · rw [Nat.min_eq_left h, List.take_of_length_le (Nat.le_refl _), List.take_of_length_le h]
  · rw [Nat.min_eq_right h]
theorem drop_min (l : List UInt8) (k : Nat) : l.drop (min l.length k) = l.drop k := by
  rcases Nat.le_total l.length k with h | h
  · rw [Nat.min_eq_left h, List.drop_of_length_le (Nat.le_refl _), List.drop_of_length_le h]
  · rw [Nat.min_eq_right h]
theorem kz_wrap (z : Int) : wrap64 ((IntKind.u64.wrap z).tmod 41) = (kz z : Int) := by
  have h : IntKind.u64.wrap z = z % 18446744073709551616 := by simp [IntKind.wrap, IntKind.bits, IntKind.signed]
  rw [h, Int.tmod_eq_emod_of_nonneg (by omega)]
  unfold kz wrap64
  omega
theorem conv_byte (b : UInt8) (W : World) : (convert 45 9 (.slice (some ⟨W.heap.size, 0, none⟩) 1 1)).run Tryz.prog (W.alloc (.cells #[.int .u8 (b.toNat : Int)] 5)) = .ok (.string ⟨#[b]⟩) (W.alloc (.cells #[.int .u8 (b.toNat : Int)] 5)) := by
  refine run_convert_bytes_back _ 45 9 5 _ 1 [b] Tryz.underlying45 Tryz.underlying5 Tryz.underlying9 (fun j hj => ?_)
  have h0 : j = 0 := by simpa using hj
  subst h0
  exact (Bx.new W #[.int .u8 (b.toNat : Int)] 5).c 0 rfl
set_option maxRecDepth 100000 in
set_option maxHeartbeats 1000000 in
theorem chunks_true (s : ByteArray) (zs : List Int) (v : Value) (W : World) (hz : Kz W v zs) (hT : Tc W) : Calls Tryz.prog 6 #[.string s, v, .bool true] W fun o W' => o = .returned (.bool true) ∧ Below W.heap.size W W' := by
  obtain ⟨A, c, rfl, hzl, hzm, hzw⟩ := hz
  have HT := Lib.hid hT
  have HS := Lib.hid (fun V (hV : Tc V) => shown11_calls V hV)
  obtain ⟨l, hl⟩ : ∃ l, l = cutN 300 s := ⟨_, rfl⟩
  have hcut : s.extract 0 (min (s.size : Int) 300).toNat = ⟨l.toArray⟩ := by rw [hl]; rfl
  have hll : l.length ≤ 300 := by rw [hl]; exact cutN_len _ _
  have hr0 : 0 ≤ min (s.size : Int) 300 ∧ min (s.size : Int) 300 ≤ s.size := by omega
  have HM := Lib.hid (fun (u : Nat) (hu : u < 18446744073709551616) V (hV : Tc V) => make6_calls 3 u (by decide) hu V hV.2.1)
  have HZm := Lib.hid hzm
  have HZw := Lib.hid hzw
  have hcv := conv_byte 127
  rw [show ((127 : UInt8).toNat : Int) = 127 from rfl] at hcv
  have hszl : (⟨l.toArray⟩ : ByteArray).size = l.length := size_l l
  clear hT hl hzm hzw
  go_enter Tryz.func6, Tryz.ntmps6
  go_wp2_with fail
  refine (HS.out _ HT.out).mono ?_
  rintro o w1 ⟨rfl, hb1⟩
  have HB1 := Lib.hid hb1
  clear hb1
  go_wp2
  go_loopw [9, 10, 11] (fun o r i wr => ∃ (j : Nat) (ks : List Nat), i = .int .i64 (j : Int) ∧ ks.length = j ∧ j ≤ min zs.length 40 + 1 ∧ o = .string ⟨(127 :: (stJ 3 ks l).1).toArray⟩ ∧ r = .string ⟨(stJ 3 ks l).2.toArray⟩ ∧ (j ≤ min zs.length 40 → ks = (zs.take j).map kz) ∧ (j = min zs.length 40 + 1 → (stJ 3 ks l).1 = chB 3 (partsL ((zs.take 40).map kz) l)) ∧ Below W.heap.size W wr) (fun _ _ i _ => 50 - (intOf i).toNat)
  case atStart => exact ⟨0, [], rfl, rfl, Nat.zero_le _, rfl, rfl, fun _ => rfl, fun h => by omega, below_a HB1.out _⟩
  case round =>
    obtain ⟨j, ks, rfl, hkl, hj, rfl, rfl, hks, hend, hb⟩ := hrel
    have HB := Lib.hid hb
    have HKs := Lib.hid hks
    have HEnd := Lib.hid hend
    obtain ⟨R, hR⟩ : ∃ R, R = (stJ 3 ks l).2 := ⟨_, rfl⟩
    obtain ⟨O, hO⟩ : ∃ O, O = (stJ 3 ks l).1 := ⟨_, rfl⟩
    have hlen := stJ_len 3 ks l
    rw [← hR, ← hO] at hlen ⊢
    have HRO := Lib.hid (And.intro hR hO)
    have hszr : (⟨R.toArray⟩ : ByteArray).size = R.length := size_l R
    have hszo : (⟨(127 :: O).toArray⟩ : ByteArray).size = O.length + 1 := by rw [size_l, List.length_cons]
    clear hb hks hend hR hO
    by_cases hgo : j ≤ min zs.length 40
    · by_cases hgo2 : j < min zs.length 40
      · obtain ⟨B, o, rfl, hB, hcs⟩ := HZm.out (by omega)
        obtain ⟨z, hzj⟩ : ∃ z, zs[j]? = some z := ⟨_, List.getElem?_eq_getElem (by omega)⟩
        have hcz := (HB.out.cell (p := ⟨B, o + j, none⟩) hB).trans (hcs j z hzj)
        have hzb := HZw.out z (List.mem_of_getElem? hzj)
        have hkw := kz_wrap z
        obtain ⟨k, hk⟩ : ∃ k, k = kz z := ⟨_, rfl⟩
        rw [← hk] at hkw
        obtain ⟨n, hn⟩ : ∃ n, n = min R.length k := ⟨_, rfl⟩
        have hmin : min (R.length : Int) (k : Int) = (n : Int) := by omega
        have hnR : n ≤ R.length := by omega
        have htk : R.take n = R.take k := by rw [hn]; exact take_min R k
        have hdk : R.drop n = R.drop k := by rw [hn]; exact drop_min R k
        have HK1 : Hid (j + 1 ≤ min zs.length 40 → ks ++ [k] = (zs.take (j + 1)).map kz) := Lib.hid (fun _ => by
          rw [HKs.out (by omega), List.take_add_one, hzj, hk]
          simp)
        have HE1 : Hid (j + 1 = min zs.length 40 + 1 → (stJ 3 (ks ++ [k]) l).1 = chB 3 (partsL ((zs.take 40).map kz) l)) := Lib.hid (fun h => by omega)
        have a1 : j < zs.length := by omega
        have a2 : (j : Int) < 40 := by omega
        have HO1 : Hid ((⟨(127 :: O).toArray⟩ : ByteArray) ++ headB 3 n ++ (⟨R.toArray⟩ : ByteArray).extract 0 n = ⟨(127 :: (stJ 3 (ks ++ [k]) l).1).toArray⟩) := Lib.hid (by
          rw [stJ_snoc, ← HRO.out.1, ← HRO.out.2, ext_take _ _ (by omega)]
          refine str_inj ?_
          rw [app_data, app_data, List.length_take, Nat.min_comm k, ← hn, htk]
          simp [headB])
        have HR1 : Hid ((⟨R.toArray⟩ : ByteArray).extract n R.length = ⟨(stJ 3 (ks ++ [k]) l).2.toArray⟩) := Lib.hid (by
          rw [stJ_snoc, ← HRO.out.1]
          refine str_inj ?_
          rw [Lib.extract_data, ← hdk]
          exact List.take_of_length_le (by rw [List.length_drop]; exact Nat.le_refl _))
        have hsn : (headB 3 n).size ≤ 9 := by rw [headB_size]; have := hext_le n; omega
        obtain ⟨hB0, hhB⟩ : ∃ b, b = headB 3 n := ⟨_, rfl⟩
        have HMn := Lib.hid (fun V (hV : Tc V) => HM.out n (by omega) V hV)
        rw [← hhB] at HMn HO1 hsn
        clear hhB
        clear hcs hzj hk hn htk hdk
        go_wp2_with fail
        refine (HMn.out _ (HT.out.below HB.out)).mono ?_
        rintro o w2 ⟨rfl, hb2⟩
        have HB2 := Lib.hid (below_nx HB.out hb2)
        clear hb2
        go_wp2_with fail
        go_roundw
        case measure => simp [intOf]; omega
        case rel => exact ⟨j + 1, ks ++ [k], by go_num, by simp [hkl], by omega, congrArg Value.string HO1.out, congrArg Value.string HR1.out, HK1.out, HE1.out, HB2.out⟩
      · have hjN : j = min zs.length 40 := by omega
        obtain ⟨k, hk⟩ : ∃ k, k = R.length := ⟨_, rfl⟩
        obtain ⟨n, hn⟩ : ∃ n, n = min R.length k := ⟨_, rfl⟩
        have hnR : n = R.length := by omega
        have htk : R.take n = R.take k := by rw [hn]; exact take_min R k
        have hdk : R.drop n = R.drop k := by rw [hn]; exact drop_min R k
        have HK1 : Hid (j + 1 ≤ min zs.length 40 → ks ++ [k] = (zs.take (j + 1)).map kz) := Lib.hid (fun h => by omega)
        have HE1 : Hid (j + 1 = min zs.length 40 + 1 → (stJ 3 (ks ++ [k]) l).1 = chB 3 (partsL ((zs.take 40).map kz) l)) := Lib.hid (fun _ => by
          have h5 : (zs.take j).map kz = (zs.take 40).map kz := by
            rcases Nat.le_total zs.length 40 with h | h
            · rw [List.take_of_length_le (by omega), List.take_of_length_le h]
            · rw [show j = 40 by omega]
          rw [stJ_snoc, stJ_parts, ← h5, ← HKs.out (by omega), ← HRO.out.1, hk, List.take_of_length_le (Nat.le_refl _)])
        have HO1 : Hid ((⟨(127 :: O).toArray⟩ : ByteArray) ++ headB 3 n ++ (⟨R.toArray⟩ : ByteArray).extract 0 n = ⟨(127 :: (stJ 3 (ks ++ [k]) l).1).toArray⟩) := Lib.hid (by
          rw [stJ_snoc, ← HRO.out.1, ← HRO.out.2, ext_take _ _ (by omega)]
          refine str_inj ?_
          rw [app_data, app_data, List.length_take, Nat.min_comm k, ← hn, htk]
          simp [headB])
        have HR1 : Hid ((⟨R.toArray⟩ : ByteArray).extract n R.length = ⟨(stJ 3 (ks ++ [k]) l).2.toArray⟩) := Lib.hid (by
          rw [stJ_snoc, ← HRO.out.1]
          refine str_inj ?_
          rw [Lib.extract_data, ← hdk]
          exact List.take_of_length_le (by rw [List.length_drop]; exact Nat.le_refl _))
        have hsn : (headB 3 n).size ≤ 9 := by rw [headB_size]; have := hext_le n; omega
        obtain ⟨hB0, hhB⟩ : ∃ b, b = headB 3 n := ⟨_, rfl⟩
        have HMn := Lib.hid (fun V (hV : Tc V) => HM.out n (by omega) V hV)
        rw [← hhB] at HMn HO1 hsn
        clear hhB
        have HO2 : Hid ((⟨(127 :: O).toArray⟩ : ByteArray) ++ hB0 ++ (⟨R.toArray⟩ : ByteArray).extract 0 R.length = ⟨(127 :: (stJ 3 (ks ++ [k]) l).1).toArray⟩) := Lib.hid (by
          have := HO1.out
          rw [hnR] at this
          exact this)
        have HR2 : Hid (ByteArray.empty = ⟨(stJ 3 (ks ++ [k]) l).2.toArray⟩) := Lib.hid (by
          rw [stJ_snoc, ← HRO.out.1, hk]
          simp
          rfl)
        rw [hnR] at HMn
        clear hk hn htk hdk hnR
        rcases Nat.lt_or_ge 40 zs.length with h40 | h40
        · have a1 : j < zs.length := by omega
          have a2 : (40 : Int) ≤ j := by omega
          have a3 : (j : Int) ≤ 40 := by omega
          clear hgo2 hjN hgo
          go_wp2_with fail
          refine (HMn.out _ (HT.out.below HB.out)).mono ?_
          rintro o w2 ⟨rfl, hb2⟩
          have HB2 := Lib.hid (below_nx HB.out hb2)
          clear hb2
          go_wp2_with fail
          go_roundw
          case measure => simp [intOf]; omega
          case rel => exact ⟨j + 1, ks ++ [k], by go_num, by simp [hkl], by omega, congrArg Value.string HO2.out, congrArg Value.string HR2.out, HK1.out, HE1.out, HB2.out⟩
        · have a1 : zs.length ≤ j := by omega
          have a2 : j ≤ zs.length := by omega
          have a3 : (j : Int) ≤ 40 := by omega
          clear hgo2 hjN hgo
          go_wp2_with fail
          refine (HMn.out _ (HT.out.below HB.out)).mono ?_
          rintro o w2 ⟨rfl, hb2⟩
          have HB2 := Lib.hid (below_nx HB.out hb2)
          clear hb2
          go_wp2_with fail
          go_roundw
          case measure => simp [intOf]; omega
          case rel => exact ⟨j + 1, ks ++ [k], by go_num, by simp [hkl], by omega, congrArg Value.string HO2.out, congrArg Value.string HR2.out, HK1.out, HE1.out, HB2.out⟩
    · have hjN : j = min zs.length 40 + 1 := by omega
      have hstr := str_parts (F := FC) (tg := tgC) (m := 3) (.inr rfl) ((zs.take 40).map kz) l (by omega)
      rw [← HEnd.out hjN, ← HRO.out.2] at hstr
      obtain ⟨h0, hh0⟩ : ∃ h0 : Hd, h0 = strH 3 l := ⟨_, rfl⟩
      have HS7 : Hid (h0.s = ⟨l.toArray⟩) := Lib.hid (by rw [hh0]; rfl)
      have hst1 : itC 1 (127 :: (O ++ [255])) = .ok ((h0, .nil), []) := by rw [hh0]; exact hstr.1
      have hst2 : itC 1 (headL 3 l.length ++ l) = .ok ((h0, .nil), []) := by rw [hh0]; exact hstr.2
      have hhx := hext_le l.length
      have hhl := headL_len 3 l.length
      have HIa := Lib.hid (fun V (hV : Tc V) => Item_calls (127 :: (O ++ [255])) (by rw [List.length_cons, List.length_append, List.length_cons, List.length_nil]; omega) V hV)
      have HIb := Lib.hid (fun V (hV : Tc V) => Item_calls (headL 3 l.length ++ l) (by rw [List.length_append]; omega) V hV)
      rw [hst1] at HIa
      rw [hst2] at HIb
      have HCa := Lib.hid (cat_l (127 :: O) [255])
      have HCb : Hid (headB 3 l.length ++ ⟨l.toArray⟩ = ⟨(headL 3 l.length ++ l).toArray⟩) := Lib.hid (cat_l (headL 3 l.length) l)
      have HSame := Lib.hid (fun (v v2 : Value) V (a : Kd An V v .nil) (b : Kd An V v2 .nil) => rSame_calls .nil .nil h0 h0 v v2 V a b)
      rw [self_hd, self_fo] at HSame
      have hsn : (headB 3 l.length).size ≤ 9 := by rw [headB_size]; omega
      obtain ⟨hB0, hhB⟩ : ∃ b, b = headB 3 l.length := ⟨_, rfl⟩
      have HMl := Lib.hid (fun V (hV : Tc V) => HM.out l.length (by omega) V hV)
      rw [← hhB] at HMl HCb hsn
      clear hstr hst1 hst2 hh0 hhB hhx hhl
      rcases Nat.lt_or_ge 40 zs.length with h40 | h40
      · have a1 : j ≤ zs.length := by omega
        have a2 : (40 : Int) < j := by omega
        clear hgo hjN
        go_wp2_with fail
        refine (HMl.out _ (HT.out.below HB.out)).mono ?_
        rintro o w2 ⟨rfl, hb2⟩
        have HB2 := Lib.hid (below_nx HB.out hb2)
        clear hb2
        go_wp2_with fail
        rw [HCa.out]
        refine (HIa.out _ (HT.out.below HB2.out)).mono ?_
        rintro o w3 ⟨hb3, v3, rfl, hk3, hu3⟩
        obtain ⟨A3, c3, rfl, -, -, -⟩ := hk3.form
        have HK3 := Lib.hid (hk3.mono (Q := An) (fun _ _ _ => trivial))
        have HB3 := Lib.hid (below_nx HB2.out hb3)
        clear hb3 hk3
        rw [show Fo.nil.len = 0 from rfl]
        simp only [Hd.cells]
        go_wp2_with fail
        obtain ⟨w4, hw4⟩ : ∃ w4, w4 = w3.alloc (.cells (h0.cells (.slice A3 0 c3)) 28) := ⟨_, rfl⟩
        have hb4 : Below w3.heap.size w3 w4 := by rw [hw4]; exact below_a (Below.refl _ _) _
        have HX4 := Lib.hid (show Nx w4 w3.heap.size h0 (.slice A3 0 c3) by rw [hw4]; exact Nx.new _ _ _)
        have HB4 := Lib.hid (below_nx HB3.out hb4)
        have HK4 := Lib.hid (HK3.out.below hb4)
        simp only [Hd.cells] at hw4
        rw [← hw4, HCb.out]
        clear hw4 hb4
        refine (HIb.out _ (HT.out.below HB4.out)).mono ?_
        rintro o w5 ⟨hb5, v5, rfl, hk5, hu5⟩
        obtain ⟨A5, c5, rfl, -, -, -⟩ := hk5.form
        have HK5 := Lib.hid (hk5.mono (Q := An) (fun _ _ _ => trivial))
        have HK6 := Lib.hid (HK4.out.below hb5)
        have HX6 := Lib.hid (HX4.out.below hb5)
        have HB5 := Lib.hid (below_nx HB4.out hb5)
        clear hb5 hk5
        obtain ⟨q0, q1, q2, q3, q4, q5, q6, q7, q8⟩ := HX6.out.nine
        have hlw := HX6.out.lt
        rw [show Fo.nil.len = 0 from rfl]
        simp only [Hd.cells]
        go_wp2_with fail
        refine (HSame.out _ _ _ (HK6.out.below (below_a (Below.refl _ _) _)) (HK5.out.below (below_a (Below.refl _ _) _))).mono ?_
        rintro o w7 ⟨rfl, hb7⟩
        have HB7 := Lib.hid (below_nx (below_a HB5.out _) hb7)
        have q := ((HX6.out.alloc _).below hb7).nine.2.2.2.2.2.2.2.1
        rw [HS7.out] at q
        clear q0 q1 q2 q3 q4 q5 q6 q7 q8 hlw hb7
        go_wp2_with fail
        go_ret
        exact ⟨rfl, HB7.out⟩
      · have a1 : zs.length < j := by omega
        clear hgo hjN
        go_wp2_with fail
        refine (HMl.out _ (HT.out.below HB.out)).mono ?_
        rintro o w2 ⟨rfl, hb2⟩
        have HB2 := Lib.hid (below_nx HB.out hb2)
        clear hb2
        go_wp2_with fail
        rw [HCa.out]
        refine (HIa.out _ (HT.out.below HB2.out)).mono ?_
        rintro o w3 ⟨hb3, v3, rfl, hk3, hu3⟩
        obtain ⟨A3, c3, rfl, -, -, -⟩ := hk3.form
        have HK3 := Lib.hid (hk3.mono (Q := An) (fun _ _ _ => trivial))
        have HB3 := Lib.hid (below_nx HB2.out hb3)
        clear hb3 hk3
        rw [show Fo.nil.len = 0 from rfl]
        simp only [Hd.cells]
        go_wp2_with fail
        obtain ⟨w4, hw4⟩ : ∃ w4, w4 = w3.alloc (.cells (h0.cells (.slice A3 0 c3)) 28) := ⟨_, rfl⟩
        have hb4 : Below w3.heap.size w3 w4 := by rw [hw4]; exact below_a (Below.refl _ _) _
        have HX4 := Lib.hid (show Nx w4 w3.heap.size h0 (.slice A3 0 c3) by rw [hw4]; exact Nx.new _ _ _)
        have HB4 := Lib.hid (below_nx HB3.out hb4)
        have HK4 := Lib.hid (HK3.out.below hb4)
        simp only [Hd.cells] at hw4
        rw [← hw4, HCb.out]
        clear hw4 hb4
        refine (HIb.out _ (HT.out.below HB4.out)).mono ?_
        rintro o w5 ⟨hb5, v5, rfl, hk5, hu5⟩
        obtain ⟨A5, c5, rfl, -, -, -⟩ := hk5.form
        have HK5 := Lib.hid (hk5.mono (Q := An) (fun _ _ _ => trivial))
        have HK6 := Lib.hid (HK4.out.below hb5)
        have HX6 := Lib.hid (HX4.out.below hb5)
        have HB5 := Lib.hid (below_nx HB4.out hb5)
        clear hb5 hk5
        obtain ⟨q0, q1, q2, q3, q4, q5, q6, q7, q8⟩ := HX6.out.nine
        have hlw := HX6.out.lt
        rw [show Fo.nil.len = 0 from rfl]
        simp only [Hd.cells]
        go_wp2_with fail
        refine (HSame.out _ _ _ (HK6.out.below (below_a (Below.refl _ _) _)) (HK5.out.below (below_a (Below.refl _ _) _))).mono ?_
        rintro o w7 ⟨rfl, hb7⟩
        have HB7 := Lib.hid (below_nx (below_a HB5.out _) hb7)
        have q := ((HX6.out.alloc _).below hb7).nine.2.2.2.2.2.2.2.1
        rw [HS7.out] at q
        clear q0 q1 q2 q3 q4 q5 q6 q7 q8 hlw hb7
        go_wp2_with fail
        go_ret
        exact ⟨rfl, HB7.out⟩
set_option maxRecDepth 100000 in
set_option maxHeartbeats 1000000 in
theorem chunks_false (s : ByteArray) (zs : List Int) (v : Value) (W : World) (hz : Kz W v zs) (hT : Tc W) : Calls Tryz.prog 6 #[.string s, v, .bool false] W fun o W' => o = .returned (.bool true) ∧ Below W.heap.size W W' := by
  obtain ⟨A, c, rfl, hzl, hzm, hzw⟩ := hz
  have HT := Lib.hid hT
  have HS := Lib.hid (fun V (hV : Tc V) => shown11_calls V hV)
  obtain ⟨l, hl⟩ : ∃ l, l = cutN 300 s := ⟨_, rfl⟩
  have hcut : s.extract 0 (min (s.size : Int) 300).toNat = ⟨l.toArray⟩ := by rw [hl]; rfl
  have hll : l.length ≤ 300 := by rw [hl]; exact cutN_len _ _
  have hr0 : 0 ≤ min (s.size : Int) 300 ∧ min (s.size : Int) 300 ≤ s.size := by omega
  have HM := Lib.hid (fun (u : Nat) (hu : u < 18446744073709551616) V (hV : Tc V) => make6_calls 2 u (by decide) hu V hV.2.1)
  have HZm := Lib.hid hzm
  have HZw := Lib.hid hzw
  have hcv := conv_byte 95
  rw [show ((95 : UInt8).toNat : Int) = 95 from rfl] at hcv
  have hszl : (⟨l.toArray⟩ : ByteArray).size = l.length := size_l l
  clear hT hl hzm hzw
  go_enter Tryz.func6, Tryz.ntmps6
  go_wp2_with fail
  refine (HS.out _ HT.out).mono ?_
  rintro o w1 ⟨rfl, hb1⟩
  have HB1 := Lib.hid hb1
  clear hb1
  go_wp2
  go_loopw [9, 10, 11] (fun o r i wr => ∃ (j : Nat) (ks : List Nat), i = .int .i64 (j : Int) ∧ ks.length = j ∧ j ≤ min zs.length 40 + 1 ∧ o = .string ⟨(95 :: (stJ 2 ks l).1).toArray⟩ ∧ r = .string ⟨(stJ 2 ks l).2.toArray⟩ ∧ (j ≤ min zs.length 40 → ks = (zs.take j).map kz) ∧ (j = min zs.length 40 + 1 → (stJ 2 ks l).1 = chB 2 (partsL ((zs.take 40).map kz) l)) ∧ Below W.heap.size W wr) (fun _ _ i _ => 50 - (intOf i).toNat)
  case atStart => exact ⟨0, [], rfl, rfl, Nat.zero_le _, rfl, rfl, fun _ => rfl, fun h => by omega, below_a HB1.out _⟩
  case round =>
    obtain ⟨j, ks, rfl, hkl, hj, rfl, rfl, hks, hend, hb⟩ := hrel
    have HB := Lib.hid hb
    have HKs := Lib.hid hks
    have HEnd := Lib.hid hend
    obtain ⟨R, hR⟩ : ∃ R, R = (stJ 2 ks l).2 := ⟨_, rfl⟩
    obtain ⟨O, hO⟩ : ∃ O, O = (stJ 2 ks l).1 := ⟨_, rfl⟩
    have hlen := stJ_len 2 ks l
    rw [← hR, ← hO] at hlen ⊢
    have HRO := Lib.hid (And.intro hR hO)
    have hszr : (⟨R.toArray⟩ : ByteArray).size = R.length := size_l R
    have hszo : (⟨(95 :: O).toArray⟩ : ByteArray).size = O.length + 1 := by rw [size_l, List.length_cons]
    clear hb hks hend hR hO
    by_cases hgo : j ≤ min zs.length 40
    · by_cases hgo2 : j < min zs.length 40
      · obtain ⟨B, o, rfl, hB, hcs⟩ := HZm.out (by omega)
        obtain ⟨z, hzj⟩ : ∃ z, zs[j]? = some z := ⟨_, List.getElem?_eq_getElem (by omega)⟩
        have hcz := (HB.out.cell (p := ⟨B, o + j, none⟩) hB).trans (hcs j z hzj)
        have hzb := HZw.out z (List.mem_of_getElem? hzj)
        have hkw := kz_wrap z
        obtain ⟨k, hk⟩ : ∃ k, k = kz z := ⟨_, rfl⟩
        rw [← hk] at hkw
        obtain ⟨n, hn⟩ : ∃ n, n = min R.length k := ⟨_, rfl⟩
        have hmin : min (R.length : Int) (k : Int) = (n : Int) := by omega
        have hnR : n ≤ R.length := by omega
        have htk : R.take n = R.take k := by rw [hn]; exact take_min R k
        have hdk : R.drop n = R.drop k := by rw [hn]; exact drop_min R k
        have HK1 : Hid (j + 1 ≤ min zs.length 40 → ks ++ [k] = (zs.take (j + 1)).map kz) := Lib.hid (fun _ => by
          rw [HKs.out (by omega), List.take_add_one, hzj, hk]
          simp)
        have HE1 : Hid (j + 1 = min zs.length 40 + 1 → (stJ 2 (ks ++ [k]) l).1 = chB 2 (partsL ((zs.take 40).map kz) l)) := Lib.hid (fun h => by omega)
        have a1 : j < zs.length := by omega
        have a2 : (j : Int) < 40 := by omega
        have HO1 : Hid ((⟨(95 :: O).toArray⟩ : ByteArray) ++ headB 2 n ++ (⟨R.toArray⟩ : ByteArray).extract 0 n = ⟨(95 :: (stJ 2 (ks ++ [k]) l).1).toArray⟩) := Lib.hid (by
          rw [stJ_snoc, ← HRO.out.1, ← HRO.out.2, ext_take _ _ (by omega)]
          refine str_inj ?_
          rw [app_data, app_data, List.length_take, Nat.min_comm k, ← hn, htk]
          simp [headB])
        have HR1 : Hid ((⟨R.toArray⟩ : ByteArray).extract n R.length = ⟨(stJ 2 (ks ++ [k]) l).2.toArray⟩) := Lib.hid (by
          rw [stJ_snoc, ← HRO.out.1]
          refine str_inj ?_
          rw [Lib.extract_data, ← hdk]
          exact List.take_of_length_le (by rw [List.length_drop]; exact Nat.le_refl _))
        have hsn : (headB 2 n).size ≤ 9 := by rw [headB_size]; have := hext_le n; omega
        obtain ⟨hB0, hhB⟩ : ∃ b, b = headB 2 n := ⟨_, rfl⟩
        have HMn := Lib.hid (fun V (hV : Tc V) => HM.out n (by omega) V hV)
        rw [← hhB] at HMn HO1 hsn
        clear hhB
        clear hcs hzj hk hn htk hdk
        go_wp2_with fail
        refine (HMn.out _ (HT.out.below HB.out)).mono ?_
        rintro o w2 ⟨rfl, hb2⟩
        have HB2 := Lib.hid (below_nx HB.out hb2)
        clear hb2
        go_wp2_with fail
        go_roundw
        case measure => simp [intOf]; omega
        case rel => exact ⟨j + 1, ks ++ [k], by go_num, by simp [hkl], by omega, congrArg Value.string HO1.out, congrArg Value.string HR1.out, HK1.out, HE1.out, HB2.out⟩
      · have hjN : j = min zs.length 40 := by omega
        obtain ⟨k, hk⟩ : ∃ k, k = R.length := ⟨_, rfl⟩
        obtain ⟨n, hn⟩ : ∃ n, n = min R.length k := ⟨_, rfl⟩
        have hnR : n = R.length := by omega
        have htk : R.take n = R.take k := by rw [hn]; exact take_min R k
        have hdk : R.drop n = R.drop k := by rw [hn]; exact drop_min R k
        have HK1 : Hid (j + 1 ≤ min zs.length 40 → ks ++ [k] = (zs.take (j + 1)).map kz) := Lib.hid (fun h => by omega)
        have HE1 : Hid (j + 1 = min zs.length 40 + 1 → (stJ 2 (ks ++ [k]) l).1 = chB 2 (partsL ((zs.take 40).map kz) l)) := Lib.hid (fun _ => by
          have h5 : (zs.take j).map kz = (zs.take 40).map kz := by
            rcases Nat.le_total zs.length 40 with h | h
            · rw [List.take_of_length_le (by omega), List.take_of_length_le h]
            · rw [show j = 40 by omega]
          rw [stJ_snoc, stJ_parts, ← h5, ← HKs.out (by omega), ← HRO.out.1, hk, List.take_of_length_le (Nat.le_refl _)])
        have HO1 : Hid ((⟨(95 :: O).toArray⟩ : ByteArray) ++ headB 2 n ++ (⟨R.toArray⟩ : ByteArray).extract 0 n = ⟨(95 :: (stJ 2 (ks ++ [k]) l).1).toArray⟩) := Lib.hid (by
          rw [stJ_snoc, ← HRO.out.1, ← HRO.out.2, ext_take _ _ (by omega)]
          refine str_inj ?_
          rw [app_data, app_data, List.length_take, Nat.min_comm k, ← hn, htk]
          simp [headB])
        have HR1 : Hid ((⟨R.toArray⟩ : ByteArray).extract n R.length = ⟨(stJ 2 (ks ++ [k]) l).2.toArray⟩) := Lib.hid (by
          rw [stJ_snoc, ← HRO.out.1]
          refine str_inj ?_
          rw [Lib.extract_data, ← hdk]
          exact List.take_of_length_le (by rw [List.length_drop]; exact Nat.le_refl _))
        have hsn : (headB 2 n).size ≤ 9 := by rw [headB_size]; have := hext_le n; omega
        obtain ⟨hB0, hhB⟩ : ∃ b, b = headB 2 n := ⟨_, rfl⟩
        have HMn := Lib.hid (fun V (hV : Tc V) => HM.out n (by omega) V hV)
        rw [← hhB] at HMn HO1 hsn
        clear hhB
        have HO2 : Hid ((⟨(95 :: O).toArray⟩ : ByteArray) ++ hB0 ++ (⟨R.toArray⟩ : ByteArray).extract 0 R.length = ⟨(95 :: (stJ 2 (ks ++ [k]) l).1).toArray⟩) := Lib.hid (by
          have := HO1.out
          rw [hnR] at this
          exact this)
        have HR2 : Hid (ByteArray.empty = ⟨(stJ 2 (ks ++ [k]) l).2.toArray⟩) := Lib.hid (by
          rw [stJ_snoc, ← HRO.out.1, hk]
          simp
          rfl)
        rw [hnR] at HMn
        clear hk hn htk hdk hnR
        rcases Nat.lt_or_ge 40 zs.length with h40 | h40
        · have a1 : j < zs.length := by omega
          have a2 : (40 : Int) ≤ j := by omega
          have a3 : (j : Int) ≤ 40 := by omega
          clear hgo2 hjN hgo
          go_wp2_with fail
          refine (HMn.out _ (HT.out.below HB.out)).mono ?_
          rintro o w2 ⟨rfl, hb2⟩
          have HB2 := Lib.hid (below_nx HB.out hb2)
          clear hb2
          go_wp2_with fail
          go_roundw
          case measure => simp [intOf]; omega
          case rel => exact ⟨j + 1, ks ++ [k], by go_num, by simp [hkl], by omega, congrArg Value.string HO2.out, congrArg Value.string HR2.out, HK1.out, HE1.out, HB2.out⟩
        · have a1 : zs.length ≤ j := by omega
          have a2 : j ≤ zs.length := by omega
          have a3 : (j : Int) ≤ 40 := by omega
          clear hgo2 hjN hgo
          go_wp2_with fail
          refine (HMn.out _ (HT.out.below HB.out)).mono ?_
          rintro o w2 ⟨rfl, hb2⟩
          have HB2 := Lib.hid (below_nx HB.out hb2)
          clear hb2
          go_wp2_with fail
          go_roundw
          case measure => simp [intOf]; omega
          case rel => exact ⟨j + 1, ks ++ [k], by go_num, by simp [hkl], by omega, congrArg Value.string HO2.out, congrArg Value.string HR2.out, HK1.out, HE1.out, HB2.out⟩
    · have hjN : j = min zs.length 40 + 1 := by omega
      have hstr := str_parts (F := FC) (tg := tgC) (m := 2) (.inl rfl) ((zs.take 40).map kz) l (by omega)
      rw [← HEnd.out hjN, ← HRO.out.2] at hstr
      obtain ⟨h0, hh0⟩ : ∃ h0 : Hd, h0 = strH 2 l := ⟨_, rfl⟩
      have HS7 : Hid (h0.s = ⟨l.toArray⟩) := Lib.hid (by rw [hh0]; rfl)
      have hst1 : itC 1 (95 :: (O ++ [255])) = .ok ((h0, .nil), []) := by rw [hh0]; exact hstr.1
      have hst2 : itC 1 (headL 2 l.length ++ l) = .ok ((h0, .nil), []) := by rw [hh0]; exact hstr.2
      have hhx := hext_le l.length
      have hhl := headL_len 2 l.length
      have HIa := Lib.hid (fun V (hV : Tc V) => Item_calls (95 :: (O ++ [255])) (by rw [List.length_cons, List.length_append, List.length_cons, List.length_nil]; omega) V hV)
      have HIb := Lib.hid (fun V (hV : Tc V) => Item_calls (headL 2 l.length ++ l) (by rw [List.length_append]; omega) V hV)
      rw [hst1] at HIa
      rw [hst2] at HIb
      have HCa := Lib.hid (cat_l (95 :: O) [255])
      have HCb : Hid (headB 2 l.length ++ ⟨l.toArray⟩ = ⟨(headL 2 l.length ++ l).toArray⟩) := Lib.hid (cat_l (headL 2 l.length) l)
      have HSame := Lib.hid (fun (v v2 : Value) V (a : Kd An V v .nil) (b : Kd An V v2 .nil) => rSame_calls .nil .nil h0 h0 v v2 V a b)
      rw [self_hd, self_fo] at HSame
      have hsn : (headB 2 l.length).size ≤ 9 := by rw [headB_size]; omega
      obtain ⟨hB0, hhB⟩ : ∃ b, b = headB 2 l.length := ⟨_, rfl⟩
      have HMl := Lib.hid (fun V (hV : Tc V) => HM.out l.length (by omega) V hV)
      rw [← hhB] at HMl HCb hsn
      clear hstr hst1 hst2 hh0 hhB hhx hhl
      rcases Nat.lt_or_ge 40 zs.length with h40 | h40
      · have a1 : j ≤ zs.length := by omega
        have a2 : (40 : Int) < j := by omega
        clear hgo hjN
        go_wp2_with fail
        refine (HMl.out _ (HT.out.below HB.out)).mono ?_
        rintro o w2 ⟨rfl, hb2⟩
        have HB2 := Lib.hid (below_nx HB.out hb2)
        clear hb2
        go_wp2_with fail
        rw [HCa.out]
        refine (HIa.out _ (HT.out.below HB2.out)).mono ?_
        rintro o w3 ⟨hb3, v3, rfl, hk3, hu3⟩
        obtain ⟨A3, c3, rfl, -, -, -⟩ := hk3.form
        have HK3 := Lib.hid (hk3.mono (Q := An) (fun _ _ _ => trivial))
        have HB3 := Lib.hid (below_nx HB2.out hb3)
        clear hb3 hk3
        rw [show Fo.nil.len = 0 from rfl]
        simp only [Hd.cells]
        go_wp2_with fail
        obtain ⟨w4, hw4⟩ : ∃ w4, w4 = w3.alloc (.cells (h0.cells (.slice A3 0 c3)) 28) := ⟨_, rfl⟩
        have hb4 : Below w3.heap.size w3 w4 := by rw [hw4]; exact below_a (Below.refl _ _) _
        have HX4 := Lib.hid (show Nx w4 w3.heap.size h0 (.slice A3 0 c3) by rw [hw4]; exact Nx.new _ _ _)
        have HB4 := Lib.hid (below_nx HB3.out hb4)
        have HK4 := Lib.hid (HK3.out.below hb4)
        simp only [Hd.cells] at hw4
        rw [← hw4, HCb.out]
        clear hw4 hb4
        refine (HIb.out _ (HT.out.below HB4.out)).mono ?_
        rintro o w5 ⟨hb5, v5, rfl, hk5, hu5⟩
        obtain ⟨A5, c5, rfl, -, -, -⟩ := hk5.form
        have HK5 := Lib.hid (hk5.mono (Q := An) (fun _ _ _ => trivial))
        have HK6 := Lib.hid (HK4.out.below hb5)
        have HX6 := Lib.hid (HX4.out.below hb5)
        have HB5 := Lib.hid (below_nx HB4.out hb5)
        clear hb5 hk5
        obtain ⟨q0, q1, q2, q3, q4, q5, q6, q7, q8⟩ := HX6.out.nine
        have hlw := HX6.out.lt
        rw [show Fo.nil.len = 0 from rfl]
        simp only [Hd.cells]
        go_wp2_with fail
        refine (HSame.out _ _ _ (HK6.out.below (below_a (Below.refl _ _) _)) (HK5.out.below (below_a (Below.refl _ _) _))).mono ?_
        rintro o w7 ⟨rfl, hb7⟩
        have HB7 := Lib.hid (below_nx (below_a HB5.out _) hb7)
        have q := ((HX6.out.alloc _).below hb7).nine.2.2.2.2.2.2.2.1
        rw [HS7.out] at q
        clear q0 q1 q2 q3 q4 q5 q6 q7 q8 hlw hb7
        go_wp2_with fail
        go_ret
        exact ⟨rfl, HB7.out⟩
      · have a1 : zs.length < j := by omega
        clear hgo hjN
        go_wp2_with fail
        refine (HMl.out _ (HT.out.below HB.out)).mono ?_
        rintro o w2 ⟨rfl, hb2⟩
        have HB2 := Lib.hid (below_nx HB.out hb2)
        clear hb2
        go_wp2_with fail
        rw [HCa.out]
        refine (HIa.out _ (HT.out.below HB2.out)).mono ?_
        rintro o w3 ⟨hb3, v3, rfl, hk3, hu3⟩
        obtain ⟨A3, c3, rfl, -, -, -⟩ := hk3.form
        have HK3 := Lib.hid (hk3.mono (Q := An) (fun _ _ _ => trivial))
        have HB3 := Lib.hid (below_nx HB2.out hb3)
        clear hb3 hk3
        rw [show Fo.nil.len = 0 from rfl]
        simp only [Hd.cells]
        go_wp2_with fail
        obtain ⟨w4, hw4⟩ : ∃ w4, w4 = w3.alloc (.cells (h0.cells (.slice A3 0 c3)) 28) := ⟨_, rfl⟩
        have hb4 : Below w3.heap.size w3 w4 := by rw [hw4]; exact below_a (Below.refl _ _) _
        have HX4 := Lib.hid (show Nx w4 w3.heap.size h0 (.slice A3 0 c3) by rw [hw4]; exact Nx.new _ _ _)
        have HB4 := Lib.hid (below_nx HB3.out hb4)
        have HK4 := Lib.hid (HK3.out.below hb4)
        simp only [Hd.cells] at hw4
        rw [← hw4, HCb.out]
        clear hw4 hb4
        refine (HIb.out _ (HT.out.below HB4.out)).mono ?_
        rintro o w5 ⟨hb5, v5, rfl, hk5, hu5⟩
        obtain ⟨A5, c5, rfl, -, -, -⟩ := hk5.form
        have HK5 := Lib.hid (hk5.mono (Q := An) (fun _ _ _ => trivial))
        have HK6 := Lib.hid (HK4.out.below hb5)
        have HX6 := Lib.hid (HX4.out.below hb5)
        have HB5 := Lib.hid (below_nx HB4.out hb5)
        clear hb5 hk5
        obtain ⟨q0, q1, q2, q3, q4, q5, q6, q7, q8⟩ := HX6.out.nine
        have hlw := HX6.out.lt
        rw [show Fo.nil.len = 0 from rfl]
        simp only [Hd.cells]
        go_wp2_with fail
        refine (HSame.out _ _ _ (HK6.out.below (below_a (Below.refl _ _) _)) (HK5.out.below (below_a (Below.refl _ _) _))).mono ?_
        rintro o w7 ⟨rfl, hb7⟩
        have HB7 := Lib.hid (below_nx (below_a HB5.out _) hb7)
        have q := ((HX6.out.alloc _).below hb7).nine.2.2.2.2.2.2.2.1
        rw [HS7.out] at q
        clear q0 q1 q2 q3 q4 q5 q6 q7 q8 hlw hb7
        go_wp2_with fail
        go_ret
        exact ⟨rfl, HB7.out⟩
theorem chunks11_calls (s : ByteArray) (zs : List Int) (v : Value) (tx : Bool) (W : World) (hz : Kz W v zs) (hT : Tc W) : Calls Tryz.prog 6 #[.string s, v, .bool tx] W fun o W' => o = .returned (.bool true) ∧ Below W.heap.size W W' := by
  cases tx with
  | true => exact chunks_true s zs v W hz hT
  | false => exact chunks_false s zs v W hz hT
end Go.Proofs.YtppapkpceejnkaaGreatDoor
