/- The walks of OfInt and ToInt. -/
import Derived.Test.YtifccjchpciicaaGreatDoorE4
import Derived.Test.YtifccjchpciicaaGreatDoorFm
import Derived.Test.YtifccjchpciicaaGreatDoorTo
namespace Go.Proofs.YtifccjchpciicaaGreatDoor
open Go.RowKit
open Go.Lib (decDigits nDigits)

theorem nat_zeros1 {n : Bool} {l : List UInt8} {k : Nat} (h : rightD n l (k : Int) = true) (hk : k ≤ 100) : isNat (l ++ List.replicate k 48) = true := by
  obtain ⟨h1, h2, _, _⟩ := right_parts h
  obtain ⟨g1, g2, g3, g4⟩ := isNat_parts h1
  by_cases hz : l = [48]
  · subst hz
    rw [rightD_zero] at h
    simp at h
    obtain ⟨rfl, _⟩ := h
    decide
  · have hh : l.head? ≠ some 48 := by
      rcases g3 with g | g
      · exact g
      · exact absurd g hz
    have hne : (l ++ List.replicate k 48).isEmpty = false := by
      cases l with
      | nil => exact absurd rfl g1
      | cons c l => rfl
    rw [isNat, hne, List.all_append, g4, List.length_append, List.length_replicate]
    have h5 : ((l ++ List.replicate k 48).head? != some 48) = true := by
      cases l with
      | nil => exact absurd rfl g1
      | cons c l =>
        simp only [List.cons_append, List.head?_cons] at hh ⊢
        simpa using hh
    have h6 : (List.replicate k (48 : UInt8)).all isD = true := by
      rw [List.all_replicate]
      split
      · rfl
      · decide
    rw [h5, h6]
    simp
    omega


set_option maxRecDepth 100000 in
set_option maxHeartbeats 2000000 in
theorem pOfInt_calls (n : Bool) (k : Nat) (w : World) (hk : k < 18446744073709551616) (hT : Tab w) : Calls Tryz.prog 9 #[.bool n, .int .u64 (k : Int)] w (ValP (makeR n (decDigits k) 0) w) := by
  obtain ⟨R, hR⟩ : ∃ R, R = makeR n (decDigits k) 0 := ⟨_, rfl⟩
  have HMk : Hid (∀ w, Calls Tryz.prog 20 #[.bool n, .string (decB k), .int .i64 0] w (DecP R w)) := Lib.hid (fun w => by
    have := pMake_calls n (decB k) 0 w (by have := decB_size hk; omega)
    rw [decB_data, ← hR] at this
    exact this)
  have HOf := Lib.hid (natOf_calls k hk (w.alloc (.cells #[.bool false, .string ⟨#[]⟩, .int .i64 0] 24)) (hT.below ((Below.refl _ w).alloc (Nat.le_refl _) _)))
  have A0 := Lib.hid (DecAt.new w false ⟨#[]⟩ 0)
  have B0 := Lib.hid ((Below.refl _ w).alloc (Nat.le_refl _) (.cells #[.bool false, .string ⟨#[]⟩, .int .i64 0] 24))
  rw [← hR]
  clear hR hk hT
  go_enter Tryz.func9, Tryz.ntmps9
  go_wp2_with fail
  refine HOf.out.mono ?_
  rintro o w1 ⟨rfl, hb1⟩
  have A1 := Lib.hid (A0.out.below hb1)
  have B1 := Lib.hid (below_next B0.out hb1)
  clear hb1
  go_wp2_with fail
  refine (HMk.out _).mono ?_
  rintro o w2 ⟨rfl, hb2⟩
  have A2 := Lib.hid ((A1.out.below hb2).alloc (.cells #[.bool (dN R), .string (dS R), .int .i64 (dX R)] 24))
  have B2 := Lib.hid ((below_next B1.out hb2).alloc (below_next B1.out hb2).size (.cells #[.bool (dN R), .string (dS R), .int .i64 (dX R)] 24))
  clear hb2
  have c0 := A2.out.c0
  have c1 := A2.out.c1
  have c2 := A2.out.c2
  have f0 := A2.out.f 0
  have f1 := A2.out.f 1
  have f2 := A2.out.f 2
  have hz := A2.out.lt
  go_wp2
  refine bodyPost_ret (v := .agg #[.bool (dN R), .string (dS R), .int .i64 (dX R)]) (by simp [results, Tryz.results9, go_sem, c0, c1, c2]) rfl ?_
  exact ⟨rfl, bel3 B2.out (Nat.le_refl _) _ _ _⟩

set_option maxRecDepth 100000 in
set_option maxHeartbeats 2000000 in
theorem ToInt_no (n : Bool) (s : ByteArray) (e : Int) (w : World) (b : Bool) (hb : rightD n s.data.toList e = b) (h : b = false ∨ (b = true ∧ e < 0)) : Calls Tryz.prog 7 #[.agg #[.bool n, .string s, .int .i64 e]] w fun o w' => o = .returned (.tuple #[.bool false, .int .u64 0, .bool false]) ∧ Below w.heap.size w w' := by
  have HR := Lib.hid (fun w => pRight_is n s e b w hb)
  have A0 := Lib.hid (DecAt.new w n s e)
  have B0 := Lib.hid ((Below.refl _ w).alloc (Nat.le_refl _) (.cells #[.bool n, .string s, .int .i64 e] 24))
  clear hb
  rcases h with rfl | ⟨rfl, he⟩
  · go_enter Tryz.func7, Tryz.ntmps7
    go_wp2_with (go_at_call 14; refine (HR.out _).mono ?_; rintro o w1 ⟨rfl, hb1⟩)
    refine bodyPost_ret (v := .tuple #[.bool false, .int .u64 0, .bool false]) (by simp [results, Tryz.results7, go_sem]) rfl ?_
    exact ⟨rfl, below_next B0.out hb1⟩
  · go_enter Tryz.func7, Tryz.ntmps7
    go_wp2_with (go_at_call 14; refine (HR.out _).mono ?_; rintro o w1 ⟨rfl, hb1⟩; have c2 := (A0.out.below hb1).c2)
    refine bodyPost_ret (v := .tuple #[.bool false, .int .u64 0, .bool false]) (by simp [results, Tryz.results7, go_sem]) rfl ?_
    exact ⟨rfl, below_next B0.out hb1⟩

set_option maxRecDepth 100000 in
set_option maxHeartbeats 2000000 in
theorem ToInt_walk (n : Bool) (s : ByteArray) (k v : Nat) (ok : Bool) (w : World) (hr : rightD n s.data.toList (k : Int) = true) (hs : s.size ≤ 100) (hk : k ≤ 100) (hT : ErrR w)
    (hto : ∀ W, ErrR W → Calls Tryz.prog 15 #[.string (s ++ zerB k)] W fun o w' => o = .returned (.tuple #[.int .u64 (v : Int), .bool ok]) ∧ Below W.heap.size W w') :
    Calls Tryz.prog 7 #[.agg #[.bool n, .string s, .int .i64 (k : Int)]] w fun o w' => o = .returned (if ok = true then .tuple #[.bool n, .int .u64 (v : Int), .bool true] else .tuple #[.bool false, .int .u64 0, .bool false]) ∧ Below w.heap.size w w' := by
  have HR := Lib.hid (fun w => pRight_is n s k true w hr)
  have HTo := Lib.hid hto
  have HZ := Lib.hid (fun w => zer_calls k w (by omega))
  have hno : ¬ 9223372036854775807 < s.size + (zerB k).size := by rw [zerB_size]; omega
  have hno2 : s.size + (zerB k).size ≤ 9223372036854775807 := by rw [zerB_size]; omega
  have HE := Lib.hid hT
  have A0 := Lib.hid (DecAt.new w n s k)
  have B0 := Lib.hid ((Below.refl _ w).alloc (Nat.le_refl _) (.cells #[.bool n, .string s, .int .i64 (k : Int)] 24))
  clear hr hto hT
  go_enter Tryz.func7, Tryz.ntmps7
  go_wp2_with (go_at_call 14; refine (HR.out _).mono ?_; rintro o w1 ⟨rfl, hb1⟩; have c2 := (A0.out.below hb1).c2)
  have A1 := Lib.hid (show DecAt w1.drew w.heap.size n s k from (A0.out.below hb1 : DecAt w1 w.heap.size n s (k : Int)))
  have B1 := Lib.hid (below_next B0.out hb1).drew
  clear hb1 c2
  go_region_held3 (fun w' => w'.cell? ⟨w.heap.size, 1, none⟩ = some (.string s) ∧ w'.cell? ⟨w.heap.size, 2, none⟩ = some (.int .i64 (k : Int)))
    (first
      | exact ⟨A1.out.c1, A1.out.c2⟩
      | exact ⟨(A1.out.below hb2).c1, (A1.out.below hb2).c2⟩
      | exact ⟨((A1.out.below hb2).below hb3).c1, ((A1.out.below hb2).below hb3).c2⟩)
    (first
      | (go_at_call 16; refine (HZ.out _).mono ?_; rintro o w2 ⟨rfl, hb2⟩)
      | (go_at_call 15; refine (HTo.out _ (HE.out.below (below_next B1.out hb2))).mono ?_; rintro o w3 ⟨rfl, hb3⟩))
  have A3 := Lib.hid ((A1.out.below hb2).below hb3)
  have B3 := Lib.hid (below_next (below_next B1.out hb2) hb3)
  have c0 := A3.out.c0
  clear hb2 hb3
  cases ok
  · go_wp2
    refine bodyPost_ret (v := .tuple #[.bool false, .int .u64 0, .bool false]) (by simp [results, Tryz.results7, go_sem]) rfl ?_
    exact ⟨rfl, B3.out⟩
  · go_wp2
    refine bodyPost_ret (v := .tuple #[.bool n, .int .u64 (v : Int), .bool true]) (by simp [results, Tryz.results7, go_sem]) rfl ?_
    exact ⟨rfl, B3.out⟩

theorem right_pos {n : Bool} {l : List UInt8} {e : Int} (h : rightD n l e = true) (he : 0 < e) : 1 ≤ dv l := by
  have h0 : l ≠ [48] := by
    intro hz
    rw [hz, rightD_zero] at h
    simp at h
    omega
  have := (right_num h h0).2.1
  rcases Nat.eq_zero_or_pos (dv l) with h1 | h1
  · rw [h1] at this; exact absurd rfl this
  · exact h1
theorem pToInt_calls (n : Bool) (s : ByteArray) (e : Int) (w : World) (hT : ErrR w) : Calls Tryz.prog 7 #[.agg #[.bool n, .string s, .int .i64 e]] w (ToP (toI n s.data.toList e) w) := by
  cases hr : rightD n s.data.toList e with
  | false =>
    refine (ToInt_no n s e w false hr (.inl rfl)).mono ?_
    rintro o w' ⟨rfl, hb⟩
    exact ⟨by rw [toI, hr, if_neg (by simp)]; rfl, hb⟩
  | true =>
    obtain ⟨_, hl, h1, h2⟩ := right_parts hr
    rw [← Lib.size_eq] at hl
    by_cases he : e < 0
    · refine (ToInt_no n s e w true hr (.inr ⟨rfl, he⟩)).mono ?_
      rintro o w' ⟨rfl, hb⟩
      exact ⟨by rw [toI, if_neg (fun h => by omega)]; rfl, hb⟩
    · obtain ⟨k, rfl⟩ : ∃ k : Nat, e = k := ⟨e.toNat, by omega⟩
      have hnat : isNat (s ++ zerB k).data.toList = true := by
        rw [app_data, zerB_data]
        exact nat_zeros1 hr (by omega)
      have hdv : dv (s ++ zerB k).data.toList = dv s.data.toList * 10 ^ k := by rw [app_data, zerB_data, dv_zeros]
      have hsz : (s ++ zerB k).size ≤ 1000 := by rw [ByteArray.size_append, zerB_size]; omega
      by_cases hlt : dv s.data.toList * 10 ^ k < 18446744073709551616
      · have hk20 : k ≤ 20 := by
          rcases Nat.lt_or_ge 20 k with h | h
          · exfalso
            have h3 := right_pos hr (by omega)
            have h4 : 10 ^ 21 ≤ 10 ^ k := Nat.pow_le_pow_right (by omega) (by omega)
            have h5 : 1 * 10 ^ 21 ≤ dv s.data.toList * 10 ^ k := Nat.mul_le_mul h3 h4
            exact absurd (Nat.lt_of_le_of_lt h5 hlt) (by decide)
          · exact h
        refine (ToInt_walk n s k (dv s.data.toList * 10 ^ k) true w hr hl (by omega) hT (fun W _ => by
          have := To_yes (s ++ zerB k) W hnat hsz (by rw [hdv]; exact hlt)
          rw [hdv] at this
          exact this)).mono ?_
        rintro o w' ⟨rfl, hb⟩
        exact ⟨by rw [toI, if_pos (show rightD n s.data.toList (k : Int) = true ∧ 0 ≤ (k : Int) ∧ (k : Int) ≤ 20 ∧ dv s.data.toList * 10 ^ (k : Int).toNat < 18446744073709551616 from ⟨hr, by omega, by omega, by rw [Int.toNat_natCast]; exact hlt⟩), Int.toNat_natCast]; rfl, hb⟩
      · refine (ToInt_walk n s k 0 false w hr hl (by omega) hT (fun W hW => To_big (s ++ zerB k) W hnat hsz (by rw [hdv]; omega) hW)).mono ?_
        rintro o w' ⟨rfl, hb⟩
        exact ⟨by rw [toI, if_neg (show ¬ (rightD n s.data.toList (k : Int) = true ∧ 0 ≤ (k : Int) ∧ (k : Int) ≤ 20 ∧ dv s.data.toList * 10 ^ (k : Int).toNat < 18446744073709551616) from fun h => hlt (by have := h.2.2.2; rwa [Int.toNat_natCast] at this))]; rfl, hb⟩
end Go.Proofs.YtifccjchpciicaaGreatDoor
