/- The walk of the document's own Pairs. -/
import Derived.Test.YtfmhpeeecejpbaaBa
import Derived.Deep.AppendLies
import Derived.Deep.RegionLaw
namespace Go.Proofs.Ytfmhpeeecejpbaa
open Go.RowKit

def hexB : ByteArray := ⟨#[48, 49, 50, 51, 52, 53, 54, 55, 56, 57, 97, 98, 99, 100, 101, 102]⟩
theorem hexB_at : ∀ j : Fin 16, hexB.data[j.1]?.getD 0 = hexd j.1 := by decide
theorem hex_at {L : ByteArray} (hL : L = hexB) {n : Nat} (h : n < L.size) (h2 : n < 16) : (L[n]'h).toNat = hexN n := by
  subst hL
  have := hexB_at ⟨n, h2⟩
  rw [← byteAt_eq hexB n h, byteAt, this, hexd_toNat h2]
theorem cells2 (W : World) (a b : Int) : ∀ j u, [Value.int .u8 a, .int .u8 b][j]? = some u → (W.alloc (.cells #[.int .u8 a, .int .u8 b] 5)).cell? ((⟨W.heap.size, 0, none⟩ : Addr).add j) = some u := by
  intro j u hj
  match j, hj with
  | 0, hj => simp at hj; subst hj; simp [Addr.add]
  | 1, hj => simp at hj; subst hj; simp [Addr.add]
  | (j + 2), hj => simp at hj
theorem one2 (a b : Int) : ∀ u ∈ [Value.int .u8 a, .int .u8 b], u.oneCell' = true := by
  intro u hu
  simp at hu
  rcases hu with rfl | rfl <;> rfl
theorem row_appP {W : World} {base : Nat} {v : Value} {A B C : List UInt8} {n : Nat} {xs : List Value} (h : W.ownsRow base 5 1 v (A.length + n) (A.map encB ++ xs)) (hB : B.map encB = xs) (hn : n = B.length) (hC : C = A ++ B) : W.ownsRow base 5 1 v C.length (C.map encB) := by
  subst hC hB hn
  rw [List.length_append, List.map_append]
  exact h

set_option maxRecDepth 100000 in
set_option maxHeartbeats 1000000 in
theorem rPairs_no (s : ByteArray) (w : World) (hs : 400 < s.size) : Calls Try.prog 17 #[.string s] w fun e w' => e = .returned (.tuple #[.string noB, .int .i64 30]) ∧ Below w.heap.size w w' := by
  have hd : decide ((400 : Int) < (s.size : Int)) = true := by simp; omega
  go_enter Try.func17, Try.ntmps17
  go_wp2
  go_ret2
  exact ⟨rfl, Below.refl _ _⟩

set_option maxRecDepth 100000 in
set_option maxHeartbeats 2000000 in
theorem rPairs_yes (s : ByteArray) (w : World) (hs : s.size ≤ 400) : Calls Try.prog 17 #[.string s] w fun e w' => e = .returned (.tuple #[.string ⟨(pairs s.data.toList).toArray⟩, .int .i64 0]) ∧ Below w.heap.size w w' := by
  obtain ⟨i0, hi, hz0, hz1, hz2⟩ := info_parts info5
  have HI := Lib.hid hi
  have HZ0 := Lib.hid hz0
  have HZ1 := Lib.hid hz1
  have HZ2 := Lib.hid hz2
  clear hi hz0 hz1 hz2
  have hd : decide ((400 : Int) < (s.size : Int)) = false := by simp; omega
  obtain ⟨L, hL⟩ : ∃ L : ByteArray, L = ⟨#[48, 49, 50, 51, 52, 53, 54, 55, 56, 57, 97, 98, 99, 100, 101, 102]⟩ := ⟨_, rfl⟩
  have hLs : L.size = 16 := by rw [hL]; rfl
  have HL : Hid (L = hexB) := Lib.hid hL
  have HL2 := Lib.hid hL
  clear hL
  go_enter Try.func17, Try.ntmps17
  go_wp2
  rw [← HL2.out]
  go_loopw [5, 6] (fun v i wr => ∃ k : Nat, i = .int .i64 k ∧ k ≤ s.size ∧ wr.ownsRow w.heap.size 5 1 v (pairs (s.data.toList.take k)).length ((pairs (s.data.toList.take k)).map encB) ∧ Below w.heap.size w wr) (fun _ i _ => s.size - (intOf i).toNat)
  case atStart => exact ⟨0, rfl, by omega, World.ownsRow_nil _ _ _ _, Below.refl _ _⟩
  case round =>
    obtain ⟨k, rfl, hk, hown, hnx⟩ := hrel
    have HO := Lib.hid hown
    have HN := Lib.hid hnx
    clear hown hnx
    by_cases hlt : k < s.size
    · have e0 : (s[k]'hlt).toNat = (byteAt s k).toNat := by rw [byteAt_eq s k hlt]
      have b0 : (byteAt s k).toNat < 256 := (byteAt s k).toNat_lt
      obtain ⟨c, hc⟩ : ∃ c, c = (byteAt s k).toNat := ⟨_, rfl⟩
      have hcb : c < 256 := by omega
      rw [← hc] at e0
      obtain ⟨n0, hn0⟩ : ∃ n, n = c / 16 := ⟨_, rfl⟩
      obtain ⟨n1, hn1⟩ : ∃ n, n = c % 16 := ⟨_, rfl⟩
      have q0 : IntKind.u8.wrap ((c : Int) / 16) = (n0 : Int) := by simp only [IntKind.wrap, IntKind.bits, IntKind.signed]; simp; omega
      have q1 : IntKind.u8.wrap ((c : Int) % 16) = (n1 : Int) := by simp only [IntKind.wrap, IntKind.bits, IntKind.signed]; simp; omega
      have r1 : (c : Int).tmod 16 = (n1 : Int) := by rw [Int.tmod_eq_emod_of_nonneg (by omega)]; omega
      have l0 : n0 < L.size := by omega
      have l1 : n1 < L.size := by omega
      have v0 : (L[n0]'l0).toNat = hexN n0 := hex_at HL.out l0 (by omega)
      have v1 : (L[n1]'l1).toNat = hexN n1 := hex_at HL.out l1 (by omega)
      have i1 : (n0 : Int) < (L.size : Int) := by omega
      have i2 : (n1 : Int) < (L.size : Int) := by omega
      have i3 : (k : Int) < (s.size : Int) := by omega
      have HE : Hid (pairs (s.data.toList.take (k + 1)) = pairs (s.data.toList.take k) ++ [hexd n0, hexd n1]) := Lib.hid (by
        rw [take_snoc s k hlt, pairs_app]
        simp only [pairs]
        rw [← hc, hn0, hn1])
      have HB : Hid ([hexd n0, hexd n1].map encB = [Value.int .u8 (hexN n0 : Int), .int .u8 (hexN n1 : Int)]) := Lib.hid (by
        simp only [List.map_cons, List.map_nil, encB]
        rw [hexd_toNat (by omega), hexd_toNat (by omega)])
      have hpl := pairs_len (s.data.toList.take k)
      rw [List.length_take, size_data] at hpl
      have hpl2 : (pairs (s.data.toList.take k)).length ≤ 800 := by omega
      clear hLs hc hn0 hn1 b0 hpl
      have HOd : Hid (∀ o, ((wr.alloc o).drew).ownsRow w.heap.size 5 1 u5 (pairs (s.data.toList.take k)).length ((pairs (s.data.toList.take k)).map encB)) := Lib.hid (fun o => HO.out.alloc o)
      have HCd : Hid (∀ a b : Int, ∀ j u, [Value.int .u8 a, .int .u8 b][j]? = some u → ((wr.alloc (.cells #[.int .u8 a, .int .u8 b] 5)).drew).cell? ((⟨wr.heap.size, 0, none⟩ : Addr).add j) = some u) := Lib.hid (fun a b => cells2 wr a b)
      have HBd : Hid (∀ o, Below w.heap.size w (wr.alloc o).drew) := Lib.hid (fun o => (HN.out.alloc HN.out.size o).drew)
      go_upto_region 8 with fail
      go_region_law (refine step_append_lies _ rfl (.tmp 16) (.tmp 29) 35 rfl w.heap.size 5 i0 (.int .u8 0) 1 1 Try.underlying35 HI.out HZ0.out HZ1.out HZ2.out rfl (by decide) u5 _ _ (by simp [Act.eval]) (HOd.out _) ⟨wr.heap.size, 0, none⟩ 2 2 [Value.int .u8 (hexN n0 : Int), .int .u8 (hexN n1 : Int)] (by simp [Act.eval]) rfl (HCd.out _ _) (one2 _ _) (by omega) (by unfold maxLen; omega) (by omega) (by have := HN.out.size; simp; omega) _ rfl ?_; intro g cap w3 hown3 hg3 hl3 hlt3)
      all_goals go_wp2
      all_goals go_roundw
      all_goals first
        | exact ⟨k + 1, by go_num, by omega, row_appP hown3 HB.out rfl HE.out, (HBd.out _).grown hg3 (by have := HN.out.size; simp; omega) (fun k e => (HO.out.lt k e).1)⟩
        | (simp [intOf]; omega)
    · have HT : Hid (s.data.toList.take k = s.data.toList) := Lib.hid (List.take_of_length_le (by rw [size_data]; omega))
      have hcv0 := conv_own HO.out
      rw [HT.out] at hcv0
      go_wp2
      go_ret2
      exact ⟨rfl, HN.out⟩
end Go.Proofs.Ytfmhpeeecejpbaa
