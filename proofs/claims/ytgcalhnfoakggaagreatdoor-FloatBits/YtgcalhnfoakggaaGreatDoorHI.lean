/- The program's own: valueOf. -/
import Derived.Test.YtgcalhnfoakggaaGreatDoorHH
import Derived.Test.YtgcalhnfoakggaaGreatDoorHG
import Derived.Test.YtgcalhnfoakggaaGreatDoorSh
namespace Go.Proofs.YtgcalhnfoakggaaGreatDoor
open Go.RowKit
open Go.Lib (decDigits nDigits)

/-- The number of bytes, the greatest first. -/
def bv (l : List UInt8) : Nat := l.foldl (fun a c => a * 256 + c.toNat) 0
theorem bv_snoc (l : List UInt8) (c : UInt8) : bv (l ++ [c]) = bv l * 256 + c.toNat := by simp [bv]
theorem bv_lt (l : List UInt8) : bv l < 256 ^ l.length := by
  have key : ∀ (l : List UInt8) (a : Nat), l.foldl (fun a c => a * 256 + c.toNat) a < (a + 1) * 256 ^ l.length := by
    intro l
    induction l with
    | nil => intro a; simp
    | cons c l ih =>
      intro a
      rw [List.foldl_cons, List.length_cons]
      refine Nat.lt_of_lt_of_le (ih _) ?_
      rw [Nat.pow_succ, Nat.mul_comm (256 ^ l.length) 256, ← Nat.mul_assoc]
      exact Nat.mul_le_mul_right _ (by have := c.toNat_lt; omega)
  have := key l 0
  rwa [Nat.zero_add, Nat.one_mul] at this
theorem bv_byteL (n : Nat) : bv (byteL n).reverse = n := by
  induction n using Nat.strongRecOn with
  | _ n ih =>
    by_cases h : n = 0
    · subst h; rw [byteL_zero]; rfl
    · rw [byteL_pos (by omega), List.reverse_cons, bv_snoc, ih (n / 256) (by omega), UInt8.toNat_ofNat']
      omega
theorem byte_zero {n : Nat} (h : n % 256 ≠ 0) : (UInt8.ofNat (n % 256) == 0) = false := by
  rw [beq_eq_false_iff_ne]
  intro e
  have := congrArg UInt8.toNat e
  rw [UInt8.toNat_ofNat'] at this
  simp at this
  omega
/-- The zeros at a number's end. -/
theorem bytes_split (F : Nat) : ∃ U z : Nat, F = U * 256 ^ z ∧ (F ≠ 0 → U % 256 ≠ 0) ∧ (F = 0 → U = 0) ∧ Lib.trimRightB (byteL F).reverse 0 = (byteL U).reverse ∧ (byteL F).length = z + (byteL U).length := by
  induction F using Nat.strongRecOn with
  | _ F ih =>
    by_cases h0 : F = 0
    · subst h0
      exact ⟨0, 0, by simp, fun h => absurd rfl h, fun _ => rfl, by rw [byteL_zero]; rfl, by rw [byteL_zero]; rfl⟩
    · by_cases h : F % 256 = 0
      · obtain ⟨U, z, h1, h2, h3, h4, h5⟩ := ih (F / 256) (by omega)
        refine ⟨U, z + 1, ?_, fun _ => h2 (by omega), fun e => absurd e h0, ?_, ?_⟩
        · rw [Nat.pow_succ, ← Nat.mul_assoc, ← h1]; omega
        · rw [← h4, Lib.trimRightB, Lib.trimRightB, List.reverse_reverse, List.reverse_reverse, byteL_pos (by omega), h, List.dropWhile_cons_of_pos (by decide)]
        · rw [byteL_pos (by omega), List.length_cons, h5]; omega
      · refine ⟨F, 0, by simp, fun _ => h, fun e => absurd e h0, ?_, by simp⟩
        rw [Lib.trimRightB, List.reverse_reverse, byteL_pos (by omega), List.dropWhile_cons_of_neg (by rw [byte_zero h]; decide)]
theorem bv_take (s : ByteArray) (k : Nat) (hk : k < s.size) : bv (s.data.toList.take (k + 1)) = bv (s.data.toList.take k) * 256 + (byteAt s k).toNat := by
  rw [List.take_succ_eq_append_getElem (by rw [← Lib.size_eq]; exact hk), bv_snoc, byteAt_list, List.getElem?_eq_getElem (by rw [← Lib.size_eq]; exact hk)]
  rfl

set_option maxRecDepth 100000 in
set_option maxHeartbeats 400000 in
theorem valueOf_no (n : Bool) (C : ByteArray) (e : Int) (w : World) (hT : Tab w)
    (hF : ∀ W, Tab W → Calls Tryz.prog 56 #[.string C, .int .i64 e] W fun o w' => o = .returned (.tuple #[.string ⟨#[]⟩, .bool false]) ∧ Below W.heap.size W w') :
    Calls Tryz.prog 35 #[.agg #[.bool n, .string C, .int .i64 e]] w fun o w' => o = .returned (.tuple #[.agg #[.int .u64 0, .int .i64 0], .bool false]) ∧ Below w.heap.size w w' := by
  have HF := Lib.hid hF
  have HT := Lib.hid hT
  clear hF hT
  have B0 := Lib.hid (below_al (below_al (Below.refl _ w) (.cells #[.bool n, .string C, .int .i64 e] 34)) (.cells #[.int .u64 0, .int .i64 0] 57))
  have V0 := Lib.hid (At.new1 w (.cells #[.bool n, .string C, .int .i64 e] 34) #[.int .u64 0, .int .i64 0] 57)
  go_enter Tryz.func35, Tryz.ntmps35
  go_wp2_with fail
  refine (HF.out _ (HT.out.below B0.out)).mono ?_
  rintro o w1 ⟨rfl, hb1⟩
  have V1 := Lib.hid (V0.out.below hb1)
  have B1 := Lib.hid (below_next B0.out hb1)
  clear hb1 V0 B0
  have c0 := V1.out.c 0 rfl
  have c1 := V1.out.c 1 rfl
  have f0 := V1.out.f 0
  have f1 := V1.out.f 1
  have hz := V1.out.lt
  go_wp2
  refine bodyPost_ret (v := .tuple #[.agg #[.int .u64 0, .int .i64 0], .bool false]) (by simp [results, Tryz.results35, go_sem, c0, c1]) rfl ?_
  exact ⟨rfl, below2 B1.out (by omega) _ _⟩

def ByI (t : ByteArray) (v i : Value) : Prop := ∃ (k m : Nat), i = .int .i64 k ∧ k ≤ t.size ∧ v = .int .u64 (m : Int) ∧ m = bv (t.data.toList.take k)

set_option maxRecDepth 100000 in
set_option maxHeartbeats 400000 in
theorem valueOf_walk (n : Bool) (C S A t : ByteArray) (e : Int) (V : Nat × Int) (N : Nat) (x : Int) (big : Bool) (w : World) (hT : Tf w) (he1 : -1000 ≤ e) (he2 : e ≤ 1000) (hA : A.size ≤ 1000) (ht : t.size ≤ A.size)
    (hbig : decide ((64 : Int) < (t.size : Int) * 8) = big) (hN : bv t.data.toList = N) (hx : x = e + ((A.size : Int) - (t.size : Int)) * 8)
    (hF : ∀ W, Tf W → Calls Tryz.prog 56 #[.string C, .int .i64 e] W fun o w' => o = .returned (.tuple #[.string S, .bool true]) ∧ Below W.heap.size W w')
    (hB : ∀ W, Calls Tryz.prog 57 #[.string S] W fun o w' => o = .returned (.tuple #[.string A, .int .i64 0]) ∧ Below W.heap.size W w')
    (hR : ∀ W, Calls Tryz.prog 58 #[.string A, .string ⟨#[0]⟩] W fun o w' => o = .returned (.string t) ∧ w' = W)
    (hV : ∀ W, Tf W → big = false → Calls Tryz.prog 44 #[.int .u64 (N : Int), .int .i64 x] W fun o w' => o = .returned (vlV V) ∧ Below W.heap.size W w') :
    Calls Tryz.prog 35 #[.agg #[.bool n, .string C, .int .i64 e]] w fun o w' => o = .returned (if big = true then .tuple #[.agg #[.int .u64 0, .int .i64 0], .bool false] else .tuple #[vlV V, .bool true]) ∧ Below w.heap.size w w' := by
  have HF := Lib.hid hF
  have HT := Lib.hid hT
  have HB := Lib.hid hB
  have HR := Lib.hid hR
  have HV := Lib.hid hV
  have HN := Lib.hid hN
  have hxe : e + ((A.size : Int) - (t.size : Int)) * 8 = x := hx.symm
  have hx1 : x ≤ 100000 := by omega
  have hx2 : -100000 ≤ x := by omega
  clear hF hT hB hR hV hN hx
  have B0 := Lib.hid (below_al (below_al (Below.refl _ w) (.cells #[.bool n, .string C, .int .i64 e] 34)) (.cells #[.int .u64 0, .int .i64 0] 57))
  have V0 := Lib.hid (At.new1 w (.cells #[.bool n, .string C, .int .i64 e] 34) #[.int .u64 0, .int .i64 0] 57)
  have D0 := Lib.hid ((At.new w #[.bool n, .string C, .int .i64 e] 34).alloc (.cells #[.int .u64 0, .int .i64 0] 57))
  go_enter Tryz.func35, Tryz.ntmps35
  go_wp2_with fail
  refine (HF.out _ (HT.out.below B0.out)).mono ?_
  rintro o w1 ⟨rfl, hb1⟩
  have V1 := Lib.hid (V0.out.below hb1)
  have D1 := Lib.hid (D0.out.below hb1)
  have B1 := Lib.hid (below_next B0.out hb1)
  clear hb1 V0 B0 D0
  go_wp2_with fail
  refine (HB.out _).mono ?_
  rintro o w2 ⟨rfl, hb2⟩
  have V2 := Lib.hid (V1.out.below hb2)
  have D2 := Lib.hid (D1.out.below hb2)
  have B2 := Lib.hid (below_next B1.out hb2)
  clear hb2 V1 B1 D1
  go_wp2_with fail
  refine (HR.out _).mono ?_
  rintro o w3 ⟨rfl, rfl⟩
  have c0 := V2.out.c 0 rfl
  have c1 := V2.out.c 1 rfl
  have f0 := V2.out.f 0
  have f1 := V2.out.f 1
  have hz := V2.out.lt
  cases big
  · have hs8 : t.size ≤ 8 := by simp at hbig; omega
    clear c0 c1 f0 f1 hz
    go_wp2
    go_loop [9, 36] (fun v i => ByI t v i) (fun _ i => t.size - (intOf i).toNat)
    case atStart => exact ⟨0, 0, rfl, Nat.zero_le _, rfl, by simp [bv]⟩
    case round =>
      obtain ⟨k, m, rfl, hk, rfl, hm⟩ := hrel
      have hml : m < 256 ^ k := by
        rw [hm]
        refine Nat.lt_of_lt_of_le (bv_lt _) (Nat.pow_le_pow_right (by decide) ?_)
        exact List.length_take_le _ _
      have HM := Lib.hid hm
      clear hm
      by_cases hlt : k < t.size
      · have hm7 : m < 72057594037927936 := by
          have h1 : 256 ^ k ≤ 256 ^ 7 := Nat.pow_le_pow_right (by decide) (by omega)
          have h2 : (256 : Nat) ^ 7 = 72057594037927936 := by decide
          omega
        have hbt : (t[k]'hlt).toNat = (byteAt t k).toNat := by rw [byteAt_eq t k hlt]
        have hb8 := (byteAt t k).toNat_lt
        obtain ⟨c, hc⟩ : ∃ c, c = (byteAt t k).toNat := ⟨_, rfl⟩
        obtain ⟨m2, hm2⟩ : ∃ m2, m2 = m * 256 + c := ⟨_, rfl⟩
        have HM2 := Lib.hid (show m2 = bv (t.data.toList.take (k + 1)) by rw [bv_take t k hlt, ← HM.out, ← hc]; exact hm2)
        rw [← hc] at hbt hb8
        have hor : bits .or .u64 ((m : Int) * 256) (c : Int) = (m2 : Int) := by rw [hm2]; exact or_64 (m * 256) c 8 (by omega) (by omega) (by omega) _ _ (by omega) rfl
        clear hm2 hc hml
        go_wp2
        go_round
        case rel => exact ⟨k + 1, m2, by go_num, by omega, rfl, HM2.out⟩
        case measure => simp [intOf]; omega
      · obtain rfl : k = t.size := by omega
        have hmN : m = N := by rw [HM.out, List.take_of_length_le (by rw [← Lib.size_eq]; exact Nat.le_refl _)]; exact HN.out
        subst hmN
        have c2 := D2.out.c 2 rfl
        clear hml
        go_wp2_with fail
        refine (HV.out _ (HT.out.below B2.out) (by trivial)).mono ?_
        rintro o w4 ⟨rfl, hb4⟩
        have V4 := Lib.hid (V2.out.below hb4)
        have B4 := Lib.hid (below_next B2.out hb4)
        clear hb4
        have c0 := V4.out.c 0 rfl
        have c1 := V4.out.c 1 rfl
        have f0 := V4.out.f 0
        have f1 := V4.out.f 1
        have hz := V4.out.lt
        unfold vlV
        go_wp2
        refine bodyPost_ret (v := .tuple #[.agg #[.int .u64 (V.1 : Int), .int .i64 V.2], .bool true]) (by simp [results, Tryz.results35, go_sem, c0, c1]) rfl ?_
        exact ⟨rfl, below2 B4.out (by omega) _ _⟩
  · go_wp2
    refine bodyPost_ret (v := .tuple #[.agg #[.int .u64 0, .int .i64 0], .bool false]) (by simp [results, Tryz.results35, go_sem, c0, c1]) rfl ?_
    exact ⟨rfl, below2 B2.out (by omega) _ _⟩
end Go.Proofs.YtgcalhnfoakggaaGreatDoor
