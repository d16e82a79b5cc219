/- The walk of the document's own Code. -/
import Derived.Test.YtfmhpeeecejpbaaBa
namespace Go.Proofs.Ytfmhpeeecejpbaa
open Go.RowKit

def lettersB : ByteArray := ⟨#[65, 66, 67, 68, 69, 70, 71, 72, 73, 74, 75, 76, 77, 78, 79, 80, 81, 82, 83, 84, 85, 86, 87, 88, 89, 90, 97, 98, 99, 100, 101, 102, 103, 104, 105, 106, 107, 108, 109, 110, 111, 112, 113, 114, 115, 116, 117, 118, 119, 120, 121, 122, 48, 49, 50, 51, 52, 53, 54, 55, 56, 57, 45, 95]⟩
theorem lettersB_size : lettersB.size = 64 := rfl
theorem lettersB_at : ∀ j : Fin 64, lettersB.data[j.1]?.getD 0 = lett j.1 := by decide
theorem letters_at {L : ByteArray} (hL : L = lettersB) {n : Nat} (h : n < L.size) (h2 : n < 64) : (L[n]'h).toNat = lettN n := by
  subst hL
  have := lettersB_at ⟨n, h2⟩
  rw [← byteAt_eq lettersB n h, byteAt, this, lett_toNat h2]
theorem letters_calls (w : World) : Calls Try.prog 22 #[] w fun e w' => e = .returned (.string lettersB) ∧ w = w' := by
  go_enter Try.func22, Try.ntmps22
  go_wp2
  go_ret
  exact ⟨rfl, rfl⟩

/-- Four letters. -/
def quad (a b c d : Nat) : ByteArray := ⟨#[lett a, lett b, lett c, lett d]⟩
theorem conv4 (W : World) (a b c d : Nat) (ha : a < 64) (hb : b < 64) (hc : c < 64) (hd : d < 64) :
    (convert 35 9 (.slice (some ⟨W.heap.size, 0, none⟩) 4 4)).run Try.prog (W.alloc (.cells #[.int .u8 (lettN a : Int), .int .u8 (lettN b : Int), .int .u8 (lettN c : Int), .int .u8 (lettN d : Int)] 5)) = .ok (.string (quad a b c d)) (W.alloc (.cells #[.int .u8 (lettN a : Int), .int .u8 (lettN b : Int), .int .u8 (lettN c : Int), .int .u8 (lettN d : Int)] 5)) := by
  refine run_convert_bytes_back _ 35 9 5 ⟨W.heap.size, 0, none⟩ 4 [lett a, lett b, lett c, lett d] Try.underlying35 Try.underlying5 Try.underlying9 (fun j hj => ?_)
  simp only [List.length_cons, List.length_nil] at hj
  match j, hj with
  | 0, _ => simp [Addr.add, lett_toNat ha]
  | 1, _ => simp [Addr.add, lett_toNat hb]
  | 2, _ => simp [Addr.add, lett_toNat hc]
  | 3, _ => simp [Addr.add, lett_toNat hd]

theorem quad_cut (a b c d m : Nat) : ((quad a b c d).extract 0 m).data.toList = [lett a, lett b, lett c, lett d].take m := by
  rw [Lib.extract_data]; simp [quad]

/-- Three bytes as a number. -/
def tri (s : ByteArray) (k : Nat) : Nat := (byteAt s k).toNat * 65536 + (byteAt s (k + 1)).toNat * 256 + (byteAt s (k + 2)).toNat

theorem code_step (s : ByteArray) (k n0 m1 n1 m2 n2 n3 : Nat) (hk3 : k % 3 = 0) (hlt : k < s.size)
    (h : n0 = tri s k / 262144 ∧ m1 = tri s k / 4096 ∧ n1 = m1 % 64 ∧ m2 = tri s k / 64 ∧ n2 = m2 % 64 ∧ n3 = tri s k % 64) (m : Nat) (hm : m = min 4 (s.size - k + 1)) :
    code (s.data.toList.take (k + 3)) = code (s.data.toList.take k) ++ [lett n0, lett n1, lett n2, lett n3].take m := by
  have hl : (s.data.toList.take k).length = k := by rw [List.length_take, size_data]; omega
  have b0 := (byteAt s k).toNat_lt
  have b1 := (byteAt s (k + 1)).toNat_lt
  have b2 := (byteAt s (k + 2)).toNat_lt
  obtain ⟨h1, h2, h3, h4, h5, h6⟩ := h
  subst h2 h4
  by_cases c1 : k + 1 < s.size
  · by_cases c2 : k + 2 < s.size
    · rw [show k + 3 = k + 2 + 1 from rfl, take_snoc s _ c2, show k + 2 = k + 1 + 1 from rfl, take_snoc s _ c1, take_snoc s _ hlt, List.append_assoc, List.append_assoc, code_app _ _ (by rw [hl]; exact hk3)]
      obtain rfl : m = 4 := by omega
      simp only [List.singleton_append, code, List.take_succ_cons, List.take_zero]
      unfold tri at *
      rw [h1, h3, h5, h6, show (byteAt s (k + 1 + 1)) = byteAt s (k + 2) from rfl]
      congr 2
      · congr 1; omega
      · congr 1
        · congr 1; omega
        · congr 1
          · congr 1; omega
          · congr 2; omega
    · have z2 : byteAt s (k + 2) = 0 := byteAt_past s _ (by omega)
      rw [show s.data.toList.take (k + 3) = s.data.toList.take (k + 1 + 1) from by rw [List.take_of_length_le (by rw [size_data]; omega), List.take_of_length_le (by rw [size_data]; omega)], take_snoc s _ c1, take_snoc s _ hlt, List.append_assoc, code_app _ _ (by rw [hl]; exact hk3)]
      obtain rfl : m = 3 := by omega
      simp only [List.singleton_append, code, List.take_succ_cons, List.take_zero]
      unfold tri at *
      rw [z2, show (0 : UInt8).toNat = 0 from rfl] at h1 h3 h5
      rw [h1, h3, h5]
      congr 2
      · congr 1; omega
      · congr 1
        · congr 1; omega
        · congr 2; omega
  · have z1 : byteAt s (k + 1) = 0 := byteAt_past s _ (by omega)
    have z2 : byteAt s (k + 2) = 0 := byteAt_past s _ (by omega)
    rw [show s.data.toList.take (k + 3) = s.data.toList.take (k + 1) from by rw [List.take_of_length_le (by rw [size_data]; omega), List.take_of_length_le (by rw [size_data]; omega)], take_snoc s _ hlt, code_app _ _ (by rw [hl]; exact hk3)]
    obtain rfl : m = 2 := by omega
    simp only [code, List.take_succ_cons, List.take_zero]
    unfold tri at *
    rw [z1, z2, show (0 : UInt8).toNat = 0 from rfl] at h1 h3
    rw [h1, h3]
    congr 2
    · congr 1; omega
    · congr 2; omega

set_option maxRecDepth 100000 in
set_option maxHeartbeats 1000000 in
theorem rCode_yes (s : ByteArray) (w : World) (hs : s.size ≤ 400) : Calls Try.prog 12 #[.string s] w fun e w' => e = .returned (.tuple #[.string ⟨(code s.data.toList).toArray⟩, .int .i64 0]) ∧ Below w.heap.size w w' := by
  have hd : decide ((400 : Int) < (s.size : Int)) = false := by simp; omega
  go_enter Try.func12, Try.ntmps12
  go_wp2_with (go_at_call 22; refine (letters_calls _).mono ?_; rintro e w' ⟨rfl, rfl⟩)
  obtain ⟨L, hL⟩ : ∃ L, L = lettersB := ⟨_, rfl⟩
  rw [← hL]
  have hLs : L.size = 64 := by rw [hL]; rfl
  have HL := Lib.hid hL
  clear hL
  go_loopw [5, 6] (fun v i wr => ∃ (k : Nat) (o : ByteArray), v = .string o ∧ i = .int .i64 k ∧ k ≤ s.size + 2 ∧ k % 3 = 0 ∧ o.size ≤ 600 ∧ o.data.toList = code (s.data.toList.take k) ∧ Below w.heap.size w wr) (fun _ i _ => s.size + 3 - (intOf i).toNat)
  case atStart => exact ⟨0, ⟨#[]⟩, rfl, rfl, by omega, rfl, by decide, rfl, Below.refl _ _⟩
  case round =>
    obtain ⟨k, o, rfl, rfl, hk, hk3, hos, ho, hnx⟩ := hrel
    have HO := Lib.hid ho
    have HN := Lib.hid hnx
    clear ho hnx
    by_cases hlt : k < s.size
    · have e0 : (s[k]'hlt).toNat = (byteAt s k).toNat := by rw [byteAt_eq s k hlt]
      have b0 : (byteAt s k).toNat < 256 := (byteAt s k).toNat_lt
      have b1 : (byteAt s (k + 1)).toNat < 256 := (byteAt s (k + 1)).toNat_lt
      have b2 : (byteAt s (k + 2)).toNat < 256 := (byteAt s (k + 2)).toNat_lt
      obtain ⟨N, hN⟩ : ∃ N, N = tri s k := ⟨_, rfl⟩
      have hNlt : N < 16777216 := by rw [hN, tri]; omega
      have HT := Lib.hid hN
      obtain ⟨n0, hn0⟩ : ∃ n, n = N / 262144 := ⟨_, rfl⟩
      obtain ⟨m1, hm1⟩ : ∃ n, n = N / 4096 := ⟨_, rfl⟩
      obtain ⟨n1, hn1⟩ : ∃ n, n = m1 % 64 := ⟨_, rfl⟩
      obtain ⟨m2, hm2⟩ : ∃ n, n = N / 64 := ⟨_, rfl⟩
      obtain ⟨n2, hn2⟩ : ∃ n, n = m2 % 64 := ⟨_, rfl⟩
      obtain ⟨n3, hn3⟩ : ∃ n, n = N % 64 := ⟨_, rfl⟩
      have q0 : IntKind.i64.wrap ((N : Int) / 262144) = (n0 : Int) := by rw [IntKind.wrap_i64]; omega
      have p1 : IntKind.i64.wrap ((N : Int) / 4096) = (m1 : Int) := by rw [IntKind.wrap_i64]; omega
      have q1 : IntKind.i64.wrap ((m1 : Int) % 64) = (n1 : Int) := by rw [IntKind.wrap_i64]; omega
      have r1 : (m1 : Int).tmod 64 = (n1 : Int) := by rw [Int.tmod_eq_emod_of_nonneg (by omega)]; omega
      have p2 : IntKind.i64.wrap ((N : Int) / 64) = (m2 : Int) := by rw [IntKind.wrap_i64]; omega
      have q2 : IntKind.i64.wrap ((m2 : Int) % 64) = (n2 : Int) := by rw [IntKind.wrap_i64]; omega
      have r2 : (m2 : Int).tmod 64 = (n2 : Int) := by rw [Int.tmod_eq_emod_of_nonneg (by omega)]; omega
      have q3 : IntKind.i64.wrap ((N : Int) % 64) = (n3 : Int) := by rw [IntKind.wrap_i64]; omega
      have r3 : (N : Int).tmod 64 = (n3 : Int) := by rw [Int.tmod_eq_emod_of_nonneg (by omega)]; omega
      have a0 : n0 < 64 := by omega
      have a1 : n1 < 64 := by omega
      have a2 : n2 < 64 := by omega
      have a3 : n3 < 64 := by omega
      have l0 : n0 < L.size := by omega
      have l1 : n1 < L.size := by omega
      have l2 : n2 < L.size := by omega
      have l3 : n3 < L.size := by omega
      have v0 : (L[n0]'l0).toNat = lettN n0 := letters_at HL.out l0 a0
      have v1 : (L[n1]'l1).toNat = lettN n1 := letters_at HL.out l1 a1
      have v2 : (L[n2]'l2).toNat = lettN n2 := letters_at HL.out l2 a2
      have v3 : (L[n3]'l3).toNat = lettN n3 := letters_at HL.out l3 a3
      have i0 : (n0 : Int) < (L.size : Int) := by omega
      have i1 : (n1 : Int) < (L.size : Int) := by omega
      have i2 : (n2 : Int) < (L.size : Int) := by omega
      have i3 : (n3 : Int) < (L.size : Int) := by omega
      have hcv := fun W => conv4 W n0 n1 n2 n3 a0 a1 a2 a3
      have hqs : (quad n0 n1 n2 n3).size = 4 := rfl
      clear hLs a0 a1 a2 a3
      have HQ := Lib.hid (And.intro hn0 (And.intro hm1 (And.intro hn1 (And.intro hm2 (And.intro hn2 hn3)))))
      clear hn0 hm1 hn1 hm2 hn2 hn3
      by_cases h1 : k + 1 < s.size
      · have e1 : (s[k + 1]'h1).toNat = (byteAt s (k + 1)).toNat := by rw [byteAt_eq s _ h1]
        have hi1 : (k : Int) + 1 < (s.size : Int) := by omega
        by_cases h2 : k + 2 < s.size
        · have e2 : (s[k + 2]'h2).toNat = (byteAt s (k + 2)).toNat := by rw [byteAt_eq s _ h2]
          have hi2 : (k : Int) + 2 < (s.size : Int) := by omega
          have HE : Hid (((byteAt s k).toNat : Int) * 65536 + ((byteAt s (k + 1)).toNat : Int) * 256 + ((byteAt s (k + 2)).toNat : Int) = (N : Int)) := Lib.hid (by rw [hN, tri]; omega)
          clear hN
          go_upto_region 13 with fail
          rw [HE.out]
          clear e0 e1 e2 b0 b1 b2
          go_still_tail 18, (by kernel_rfl)
          change wpList _ _ _ _ _ wr.drew
          have HN2 := Lib.hid HN.out.drew
          generalize wr.drew = w2 at *
          clear q0 p1 q1 r1 p2 q2 r2 q3 r3 v0 v1 v2 v3 l0 l1 l2 l3 i0 i1 i2 i3
          go_wp2
          go_roundw
          case rel =>
            have hst := code_step s k n0 m1 n1 m2 n2 n3 hk3 hlt (by rw [← HT.out]; exact HQ.out) 4 (by omega)
            have hdat : (o ++ (quad n0 n1 n2 n3).extract 0 4).data.toList = code (s.data.toList.take (k + 3)) := by rw [ByteArray.data_append, Array.toList_append, HO.out, quad_cut, hst]
            refine ⟨k + 3, _, rfl, by go_num, by omega, by omega, ?_, hdat, HN2.out.alloc HN2.out.size _⟩
            rw [← size_data, hdat, code_len, List.length_take, size_data]
            omega
          case measure => simp [intOf]; omega
        · have hi2 : ¬ (k : Int) + 2 < (s.size : Int) := by omega
          have hsz : (s.size : Int) - (k : Int) + 1 = 3 := by omega
          have HE : Hid (((byteAt s k).toNat : Int) * 65536 + ((byteAt s (k + 1)).toNat : Int) * 256 = (N : Int)) := Lib.hid (by rw [hN, tri, byteAt_past s (k + 2) (by omega), show (0 : UInt8).toNat = 0 from rfl]; omega)
          clear hN
          go_upto_region 13 with fail
          rw [HE.out]
          clear e0 e1 b0 b1 b2
          go_still_tail 18, (by kernel_rfl)
          change wpList _ _ _ _ _ wr.drew
          have HN2 := Lib.hid HN.out.drew
          generalize wr.drew = w2 at *
          clear q0 p1 q1 r1 p2 q2 r2 q3 r3 v0 v1 v2 v3 l0 l1 l2 l3 i0 i1 i2 i3
          go_wp2
          go_roundw
          case rel =>
            have hst := code_step s k n0 m1 n1 m2 n2 n3 hk3 hlt (by rw [← HT.out]; exact HQ.out) 3 (by omega)
            have hdat : (o ++ (quad n0 n1 n2 n3).extract 0 3).data.toList = code (s.data.toList.take (k + 3)) := by rw [ByteArray.data_append, Array.toList_append, HO.out, quad_cut, hst]
            refine ⟨k + 3, _, rfl, by go_num, by omega, by omega, ?_, hdat, HN2.out.alloc HN2.out.size _⟩
            rw [← size_data, hdat, code_len, List.length_take, size_data]
            omega
          case measure => simp [intOf]; omega
      · have hi1 : ¬ (k : Int) + 1 < (s.size : Int) := by omega
        have hi2 : ¬ (k : Int) + 2 < (s.size : Int) := by omega
        have hsz : (s.size : Int) - (k : Int) + 1 = 2 := by omega
        have HE : Hid (((byteAt s k).toNat : Int) * 65536 = (N : Int)) := Lib.hid (by rw [hN, tri, byteAt_past s (k + 1) (by omega), byteAt_past s (k + 2) (by omega), show (0 : UInt8).toNat = 0 from rfl]; omega)
        clear hN
        go_upto_region 13 with fail
        rw [HE.out]
        clear e0 b0 b1 b2
        go_still_tail 18, (by kernel_rfl)
        change wpList _ _ _ _ _ wr.drew
        have HN2 := Lib.hid HN.out.drew
        generalize wr.drew = w2 at *
        clear q0 p1 q1 r1 p2 q2 r2 q3 r3 v0 v1 v2 v3 l0 l1 l2 l3 i0 i1 i2 i3
        go_wp2
        go_roundw
        case rel =>
          have hst := code_step s k n0 m1 n1 m2 n2 n3 hk3 hlt (by rw [← HT.out]; exact HQ.out) 2 (by omega)
          have hdat : (o ++ (quad n0 n1 n2 n3).extract 0 2).data.toList = code (s.data.toList.take (k + 3)) := by rw [ByteArray.data_append, Array.toList_append, HO.out, quad_cut, hst]
          refine ⟨k + 3, _, rfl, by go_num, by omega, by omega, ?_, hdat, HN2.out.alloc HN2.out.size _⟩
          rw [← size_data, hdat, code_len, List.length_take, size_data]
          omega
        case measure => simp [intOf]; omega
    · go_wp2
      go_ret2
      refine ⟨?_, HN.out⟩
      have e : o = ⟨(code s.data.toList).toArray⟩ := str_inj (by rw [HO.out, List.take_of_length_le (by rw [size_data]; omega)])
      rw [e]
      rfl
end Go.Proofs.Ytfmhpeeecejpbaa
