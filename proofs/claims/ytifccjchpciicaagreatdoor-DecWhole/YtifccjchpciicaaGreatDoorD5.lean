/- The walks of the document's own OfInt and ToInt. -/
import Derived.Test.YtifccjchpciicaaGreatDoorD4
import Derived.Deep.RegionWith
namespace Go.Proofs.YtifccjchpciicaaGreatDoor
open Go.RowKit
open Go.Lib (decDigits nDigits)

/-- A decimal's value, and the number of the error beside it. -/
def DecVal : Option (Bool × Nat × Int) → Value
  | some (n, a, e) => decV n (decB a) e
  | none => decV false noB 0
def decE : Option (Bool × Nat × Int) → Int
  | some _ => 0
  | none => 40
theorem DecRes_eq (r : Option (Bool × Nat × Int)) : DecRes r = .tuple #[DecVal r, .int .i64 (decE r)] := by
  rcases r with _ | ⟨n, a, e⟩ <;> rfl
theorem DecVal_agg (r : Option (Bool × Nat × Int)) : ∃ (n : Bool) (s : ByteArray) (e : Int), DecVal r = .agg #[.bool n, .string s, .int .i64 e] := by
  rcases r with _ | ⟨n, a, e⟩
  · exact ⟨_, _, _, rfl⟩
  · exact ⟨_, _, _, rfl⟩

set_option maxRecDepth 100000 in
set_option maxHeartbeats 2000000 in
theorem rOfInt_calls (n : Bool) (k : Nat) (w : World) (hk : k < 18446744073709551616) : Calls Tryz.prog 10 #[.bool n, .int .u64 (k : Int)] w fun o w' => o = .returned (DecVal (makeR n (decDigits k) 0)) ∧ Below w.heap.size w w' := by
  obtain ⟨R, hR⟩ : ∃ R, R = makeR n (decDigits k) 0 := ⟨_, rfl⟩
  have HMk : Hid (∀ w, Calls Tryz.prog 22 #[.bool n, .string (decB k), .int .i64 0] w fun o w' => o = .returned (.tuple #[DecVal R, .int .i64 (decE R)]) ∧ Below w.heap.size w w') := Lib.hid (fun w => (rMake_calls n (decB k) 0 w).mono fun o w' ⟨h1, h2⟩ => ⟨by rw [h1, decB_data, ← hR, DecRes_eq], h2⟩)
  have HOf := Lib.hid (fun w => rOf_calls k w hk)
  rw [← hR]
  obtain ⟨n1, s1, e1, hv⟩ := DecVal_agg R
  obtain ⟨x, hx⟩ : ∃ x, x = decE R := ⟨_, rfl⟩
  rw [hv, ← hx] at HMk
  have HV := Lib.hid hv
  rw [hv]
  clear hv hR hx
  go_enter Tryz.func10, Tryz.ntmps10
  go_wp2_with (first
    | (go_at_call 12; refine (HOf.out _).mono ?_; rintro o w1 ⟨rfl, hb1⟩; obtain ⟨⟨c0, c1, c2⟩, hz1, hbw⟩ := one_dec hb1; have g0 := (hb1.frozen (p := ⟨w.heap.size, 0, none⟩) (by simp)).trans (show _ = false by simp); have g1 := (hb1.frozen (p := ⟨w.heap.size, 1, none⟩) (by simp)).trans (show _ = false by simp); have g2 := (hb1.frozen (p := ⟨w.heap.size, 2, none⟩) (by simp)).trans (show _ = false by simp); have HB1 := Lib.hid hbw; clear hb1 hbw)
    | (go_at_call 22; refine (HMk.out _).mono ?_; rintro o w2 ⟨rfl, hb2⟩; have k0 := (hb2.cell (p := ⟨w.heap.size, 0, none⟩) hz1).trans c0; have k1 := (hb2.cell (p := ⟨w.heap.size, 1, none⟩) hz1).trans c1; have k2 := (hb2.cell (p := ⟨w.heap.size, 2, none⟩) hz1).trans c2; have m0 := (hb2.frozen (p := ⟨w.heap.size, 0, none⟩) hz1).trans g0; have m1 := (hb2.frozen (p := ⟨w.heap.size, 1, none⟩) hz1).trans g1; have m2 := (hb2.frozen (p := ⟨w.heap.size, 2, none⟩) hz1).trans g2; have hz2 : w.heap.size < w2.heap.size := Nat.lt_of_lt_of_le hz1 hb2.size; have HB2 := Lib.hid (HB1.out.trans (hb2.mono HB1.out.size)); clear hb2))
  refine bodyPost_ret (v := .agg #[.bool n1, .string s1, .int .i64 e1]) (by simp [results, Tryz.results10, go_sem, k0, k1, k2, hz2]) rfl ?_
  refine ⟨rfl, (((HB2.out.setCell (p := ⟨w.heap.size, 0, none⟩) (Nat.le_refl _) _).setCell (p := ⟨w.heap.size, 1, none⟩) (Nat.le_refl _) _).setCell (p := ⟨w.heap.size, 2, none⟩) (Nat.le_refl _) _).alloc ?_ _⟩
  simp; omega

/-- What ToInt tells of a decimal. -/
def toI (n : Bool) (l : List UInt8) (e : Int) : Option (Bool × Nat) :=
  if rightD n l e = true ∧ 0 ≤ e ∧ e ≤ 20 ∧ dv l * 10 ^ e.toNat < 18446744073709551616 then some (n, dv l * 10 ^ e.toNat) else none
def ToRes : Option (Bool × Nat) → Value
  | some (n, k) => .tuple #[.bool n, .int .u64 (k : Int), .bool true]
  | none => .tuple #[.bool false, .int .u64 0, .bool false]
theorem dv_zeros (l : List UInt8) (k : Nat) : dv (l ++ List.replicate k 48) = dv l * 10 ^ k := by
  induction k with
  | zero => simp
  | succ k ih => rw [List.replicate_succ', ← List.append_assoc, dv_snoc, ih, Nat.pow_succ, Nat.mul_assoc]; rfl
theorem nat_zeros {n : Bool} {l : List UInt8} {k : Nat} (h : rightD n l (k : Int) = true) (hk : k ≤ 20) : isNat (l ++ List.replicate k 48) = true := by
  obtain ⟨h1, h2, _, _⟩ := right_parts h
  obtain ⟨g1, g2, g3, g4⟩ := isNat_parts h1
  by_cases hz : l = [48]
  · subst hz
    rw [rightD_zero] at h
    simp at h
    obtain ⟨rfl, _⟩ := h
    decide
  · have hh : l.head? ≠ some 48 := by
      rcases g3 with g | g
      · exact g
      · exact absurd g hz
    have hne : (l ++ List.replicate k 48).isEmpty = false := by
      cases l with
      | nil => exact absurd rfl g1
      | cons c l => rfl
    rw [isNat, hne, List.all_append, g4, List.length_append, List.length_replicate]
    have h5 : ((l ++ List.replicate k 48).head? != some 48) = true := by
      cases l with
      | nil => exact absurd rfl g1
      | cons c l =>
        simp only [List.cons_append, List.head?_cons] at hh ⊢
        simpa using hh
    have h6 : (List.replicate k (48 : UInt8)).all isD = true := by
      rw [List.all_replicate]
      split
      · rfl
      · decide
    rw [h5, h6]
    simp
    omega

set_option maxRecDepth 100000 in
set_option maxHeartbeats 2000000 in
theorem rToInt_no (n : Bool) (s : ByteArray) (e : Int) (w : World) (h : rightD n s.data.toList e = false ∨ e < 0 ∨ 20 < e) : Calls Tryz.prog 8 #[.agg #[.bool n, .string s, .int .i64 e]] w fun o w' => o = .returned (ToRes (toI n s.data.toList e)) ∧ Below w.heap.size w w' := by
  have HR : Hid (toI n s.data.toList e = none) := Lib.hid (by
    rw [toI, if_neg]
    rintro ⟨g1, g2, g3, _⟩
    rcases h with h | h | h
    · rw [h] at g1; cases g1
    · omega
    · omega)
  cases hr : rightD n s.data.toList e with
  | false =>
    have H := Lib.hid hr
    clear hr h
    go_enter Tryz.func8, Tryz.ntmps8
    go_wp2_with (go_at_call 17; refine (right_agg H.out _).mono ?_; rintro o w1 ⟨rfl, hb1⟩; obtain ⟨⟨c0, c1, c2⟩, hz1, hbw⟩ := one_dec hb1; have HB1 := Lib.hid hbw; clear hb1 hbw)
    go_ret3
    exact ⟨by rw [HR.out]; rfl, HB1.out⟩
  | true =>
    have H := Lib.hid hr
    have hc : e < 0 ∨ (0 ≤ e ∧ 20 < e) := by
      rcases h with h | h | h
      · rw [hr] at h; cases h
      · omega
      · omega
    clear hr h
    rcases hc with h | ⟨h1, h⟩
    · have d1 : decide (e < 0) = true := decide_eq_true h
      go_enter Tryz.func8, Tryz.ntmps8
      go_wp2_with (go_at_call 17; refine (right_agg H.out _).mono ?_; rintro o w1 ⟨rfl, hb1⟩; obtain ⟨⟨c0, c1, c2⟩, hz1, hbw⟩ := one_dec hb1; have HB1 := Lib.hid hbw; clear hb1 hbw)
      go_ret3
      exact ⟨by rw [HR.out]; rfl, HB1.out⟩
    · have d1 : decide (e < 0) = false := decide_eq_false (by omega)
      have d2 : decide ((20 : Int) < e) = true := decide_eq_true h
      go_enter Tryz.func8, Tryz.ntmps8
      go_wp2_with (go_at_call 17; refine (right_agg H.out _).mono ?_; rintro o w1 ⟨rfl, hb1⟩; obtain ⟨⟨c0, c1, c2⟩, hz1, hbw⟩ := one_dec hb1; have HB1 := Lib.hid hbw; clear hb1 hbw)
      go_ret3
      exact ⟨by rw [HR.out]; rfl, HB1.out⟩

set_option maxRecDepth 100000 in
set_option maxHeartbeats 2000000 in
theorem rToInt_walk (n : Bool) (s : ByteArray) (k : Nat) (x : Int) (b : Bool) (w : World) (h : rightD n s.data.toList (k : Int) = true) (hk : k ≤ 20) (v : Value)
    (hT : ∀ w, Calls Tryz.prog 18 #[.string (s ++ zerB k)] w fun o w' => o = .returned (.tuple #[.int .u64 x, .bool b]) ∧ Below w.heap.size w w')
    (hv : (b = true ∧ v = .tuple #[.bool n, .int .u64 x, .bool true]) ∨ (b = false ∧ v = .tuple #[.bool false, .int .u64 0, .bool false])) :
    Calls Tryz.prog 8 #[.agg #[.bool n, .string s, .int .i64 (k : Int)]] w fun o w' => o = .returned v ∧ Below w.heap.size w w' := by
  have H := Lib.hid h
  obtain ⟨_, hl, _, _⟩ := right_parts h
  have hsz : s.size ≤ 100 := by rw [Lib.size_eq]; exact hl
  have HT := Lib.hid hT
  have HZ := Lib.hid (fun w => zeros_calls (k : Int) w (by omega))
  rw [show ((k : Int)).toNat = k from by omega] at HZ
  have hzs := zerB_size k
  have d1 : decide ((k : Int) < 0) = false := decide_eq_false (by omega)
  have d2 : decide ((20 : Int) < (k : Int)) = false := decide_eq_false (by omega)
  clear h hl hT
  rcases hv with ⟨rfl, rfl⟩ | ⟨rfl, rfl⟩
  all_goals
    go_enter Tryz.func8, Tryz.ntmps8
    go_upto_region 3 with (go_at_call 17; refine (right_agg H.out _).mono ?_; rintro o w1 ⟨rfl, hb1⟩; obtain ⟨⟨c0, c1, c2⟩, hz1, hbw⟩ := one_dec hb1; have HB1 := Lib.hid hbw; clear hb1 hbw)
    have HT2 : Hid (Calls Tryz.prog 18 #[.string (s ++ zerB k)] w1.drew fun o w' => o = .returned (.tuple #[.int .u64 x, .bool _]) ∧ w'.cell? ⟨w.heap.size, 0, none⟩ = some (.bool n) ∧ Below w.heap.size w w') := Lib.hid ((HT.out w1.drew).mono fun o w' ⟨h1, h2⟩ => ⟨h1, (h2.cell (p := ⟨w.heap.size, 0, none⟩) hz1).trans c0, HB1.out.drew.trans (h2.mono (Nat.le_of_lt hz1))⟩)
    go_region_with (first
      | (go_at_call 19; refine (HZ.out _).mono ?_; rintro o w2 ⟨rfl, rfl⟩)
      | (go_at_call 18; refine HT2.out.mono ?_; rintro o w3 ⟨rfl, k0, hb3⟩; have HB3 := Lib.hid hb3; clear hb3))
    all_goals go_wp2
    all_goals go_ret3
    all_goals exact ⟨rfl, HB3.out⟩

theorem rToInt_calls (n : Bool) (s : ByteArray) (e : Int) (w : World) : Calls Tryz.prog 8 #[.agg #[.bool n, .string s, .int .i64 e]] w fun o w' => o = .returned (ToRes (toI n s.data.toList e)) ∧ Below w.heap.size w w' := by
  by_cases hb : rightD n s.data.toList e = false ∨ e < 0 ∨ 20 < e
  · exact rToInt_no n s e w hb
  · have h : rightD n s.data.toList e = true := by
      cases hr : rightD n s.data.toList e with
      | true => rfl
      | false => exact absurd (.inl hr) hb
    obtain ⟨k, rfl⟩ := Int.eq_ofNat_of_zero_le (show 0 ≤ e by omega)
    have hk : k ≤ 20 := by omega
    have hd : (s ++ zerB k).data.toList = s.data.toList ++ List.replicate k 48 := by rw [ByteArray.data_append, Array.toList_append, zerB_data]
    have hnat : isNat (s ++ zerB k).data.toList = true := by rw [hd]; exact nat_zeros h hk
    have hdv : dv (s ++ zerB k).data.toList = dv s.data.toList * 10 ^ k := by rw [hd, dv_zeros]
    by_cases hlt : dv s.data.toList * 10 ^ k < 18446744073709551616
    · refine rToInt_walk n s k (dv s.data.toList * 10 ^ k : Nat) true w h hk _ (fun w => ?_) (.inl ⟨rfl, ?_⟩)
      · have := rTo_yes (s ++ zerB k) w hnat (by rw [hdv]; exact hlt)
        rw [hdv] at this
        exact this
      · rw [toI, if_pos ⟨h, by omega, by omega, by simpa using hlt⟩]; rfl
    · refine rToInt_walk n s k 0 false w h hk _ (fun w => rTo_big (s ++ zerB k) w hnat (by rw [hdv]; omega)) (.inr ⟨rfl, ?_⟩)
      rw [toI, if_neg (by rintro ⟨_, _, _, h4⟩; exact hlt (by simpa using h4))]; rfl
end Go.Proofs.YtifccjchpciicaaGreatDoor
