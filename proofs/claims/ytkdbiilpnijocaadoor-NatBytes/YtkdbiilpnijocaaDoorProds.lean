/- The walks of the document's own Mul and Power, and of NatProducts. -/
import Derived.Test.YtkdbiilpnijocaaDoorRf5
import Derived.Test.YtkdbiilpnijocaaDoorRf6
import Derived.Test.YtkdbiilpnijocaaDoorSums
namespace Go.Proofs.YtkdbiilpnijocaaDoor
open Go.RowKit
open Go.Lib (decDigits nDigits)

theorem decB_digs (n : Nat) : Digs (decB n) := ⟨by rw [decB_data]; exact dec_ne n, by rw [decB_data]; exact all_dec n⟩
theorem decB_len (n : Nat) : (decB n).size = nDigits n := by rw [Lib.size_eq, decB_data, Lib.decDigits_length]

set_option maxRecDepth 100000 in
set_option maxHeartbeats 1000000 in
theorem rMul_yes (a b : ByteArray) (w : World) (ha : isNat a.data.toList = true) (hb : isNat b.data.toList = true) : Calls Tryd.prog 22 #[.string a, .string b] w (TellPost (dv a.data.toList * dv b.data.toList) w) := by
  obtain ⟨da, la⟩ := nat_digs ha
  obtain ⟨db, lb⟩ := nat_digs hb
  have hsz : (decB (dv a.data.toList * dv b.data.toList)).size ≤ 100000 := by
    have h1 := mul_lt_pow (dv_lt a.data.toList da.2) (dv_lt b.data.toList db.2)
    have h0 : 1 ≤ a.data.toList.length := by
      cases e : a.data.toList with
      | nil => exact absurd e da.1
      | cons => simp
    have h2 := nDigits_le (by omega) h1
    rw [← Lib.size_eq, ← Lib.size_eq] at h2
    rw [decB_len]
    omega
  have HA := Lib.hid ha
  have HB := Lib.hid hb
  have HDA := Lib.hid da
  have HDB := Lib.hid db
  have HE := Lib.hid (fun w => rEnds_calls (decB (dv a.data.toList * dv b.data.toList)) w (decB_digs _) hsz)
  clear ha hb da db hsz
  go_enter Tryd.func22, Tryd.ntmps22
  go_wp2_with (first
    | (go_at_call 20; refine (rRight_is _ true _ (by first | exact HA.out | exact HB.out)).mono ?_; rintro e w1 ⟨rfl, rfl⟩)
    | (go_at_call 47; refine (rMul_in a b _ HDA.out HDB.out (by omega) (by omega)).mono ?_; rintro e w2 ⟨rfl, hb2⟩)
    | (go_at_call 40; refine (HE.out _).mono ?_; rintro e w3 ⟨rfl, hb3⟩))
  go_ret2
  exact ⟨by rw [dv_decB]; rfl, hb2.trans (hb3.mono hb2.size)⟩

set_option maxRecDepth 100000 in
set_option maxHeartbeats 1000000 in
theorem rMul_no (a b : ByteArray) (w : World) (h : (isNat a.data.toList && isNat b.data.toList) = false) : Calls Tryd.prog 22 #[.string a, .string b] w fun e w' => e = .returned (.tuple #[.string noB, .int .i64 10]) ∧ w' = w := by
  cases ha : isNat a.data.toList with
  | false =>
    have HA := Lib.hid ha
    clear ha h
    go_enter Tryd.func22, Tryd.ntmps22
    go_wp2_with (go_at_call 20; refine (rRight_is _ false _ HA.out).mono ?_; rintro e w1 ⟨rfl, rfl⟩)
    go_ret2
    exact ⟨rfl, rfl⟩
  | true =>
    have HA := Lib.hid ha
    have HB := Lib.hid (show isNat b.data.toList = false by rw [ha, Bool.true_and] at h; exact h)
    clear ha h
    go_enter Tryd.func22, Tryd.ntmps22
    go_wp2_with fail
    refine (rRight_is _ true _ HA.out).mono ?_
    rintro e w1 ⟨rfl, rfl⟩
    go_wp2_with fail
    refine (rRight_is _ false _ HB.out).mono ?_
    rintro e w1 ⟨rfl, rfl⟩
    go_wp2
    go_ret2
    exact ⟨rfl, rfl⟩

set_option maxRecDepth 100000 in
set_option maxHeartbeats 1000000 in
theorem rPower_no (b : Nat) (x : Int) (w : World) (h : x < 0 ∨ 400 < x) : Calls Tryd.prog 26 #[.int .u32 (b : Int), .int .i64 x] w fun e w' => e = .returned (.tuple #[.string noB, .int .i64 10]) ∧ Below w.heap.size w w' := by
  rcases h with h | h
  · go_enter Tryd.func26, Tryd.ntmps26
    go_wp2
    go_ret2
    exact ⟨rfl, Below.refl _ _⟩
  · have h1 : ¬ x < 0 := by omega
    go_enter Tryd.func26, Tryd.ntmps26
    go_wp2
    go_ret2
    exact ⟨rfl, Below.refl _ _⟩

theorem mul_dec (x y : Nat) (w : World) (hx : nDigits x ≤ 400) (hy : nDigits y ≤ 400) : Calls Tryd.prog 47 #[.string (decB x), .string (decB y)] w fun e w' => e = .returned (.string (decB (x * y))) ∧ Below w.heap.size w w' := by
  have h := rMul_in (decB x) (decB y) w (decB_digs x) (decB_digs y) (by rw [decB_len]; omega) (by rw [decB_len]; omega)
  rw [dv_decB, dv_decB] at h
  exact h

set_option maxRecDepth 100000 in
set_option maxHeartbeats 1000000 in
theorem rPower_yes (b n : Nat) (w : World) (hb : b < 4294967296) (hn : n ≤ 400) : Calls Tryd.prog 26 #[.int .u32 (b : Int), .int .i64 (n : Int)] w (TellPost (b ^ n) w) := by
  have hd1 : decide ((n : Int) < 0) = false := by simp
  have hd2 : decide ((400 : Int) < (n : Int)) = false := by simp; omega
  have hbd : nDigits b ≤ 400 := Nat.le_trans (nDigits_le (k := 20) (by omega) (by omega)) (by omega)
  go_enter Tryd.func26, Tryd.ntmps26
  go_wp2
  go_loopw [6, 7] (fun v i wr => ∃ k : Nat, v = .string (decB (b ^ k)) ∧ i = .int .i64 k ∧ k ≤ n ∧ nDigits (b ^ k) ≤ 400 ∧ Below w.heap.size w wr) (fun _ i _ => n - (intOf i).toNat)
  case atStart => exact ⟨0, by rw [Nat.pow_zero, ← decB_one (by omega)]; rfl, rfl, Nat.zero_le _, by rw [Nat.pow_zero, Lib.nDigits_small (by omega)]; omega, Below.refl _ _⟩
  case round =>
    obtain ⟨k, rfl, rfl, hk, hdg, hnx⟩ := hrel
    have HN := Lib.hid hnx
    have HDg := Lib.hid hdg
    have HBd := Lib.hid hbd
    clear hnx hdg
    by_cases hlt : k < n
    · have hsz := decB_len (b ^ k * b)
      by_cases hl : nDigits (b ^ k * b) ≤ 400
      · go_wp2_with (first
          | (go_at_call 34; refine (rOf_calls b _ (by omega)).mono ?_; rintro e w2 ⟨rfl, hb2⟩; have HB2 := Lib.hid (HN.out.trans (hb2.mono HN.out.size)); clear hb2)
          | (go_at_call 47; refine (mul_dec (b ^ k) b _ HDg.out HBd.out).mono ?_; rintro e w3 ⟨rfl, hb3⟩; have HB3 := Lib.hid (HB2.out.trans (hb3.mono HB2.out.size)); clear hb3))
        go_roundw
        case rel => exact ⟨k + 1, by rw [Nat.pow_succ], by go_num, hlt, by rw [Nat.pow_succ]; exact hl, HB3.out⟩
        case measure => simp [intOf]; omega
      · have HL : Hid (lim ≤ b ^ n) := Lib.hid (pow_over (k := k + 1) (by rw [Nat.pow_succ]; rcases Nat.lt_or_ge (b ^ k * b) lim with h | h; exact absurd ((lim_iff _).2 h) hl; exact h) hlt)
        have hl2 : 400 < nDigits (b ^ k * b) := by omega
        go_wp2_with (first
          | (go_at_call 34; refine (rOf_calls b _ (by omega)).mono ?_; rintro e w2 ⟨rfl, hb2⟩; have HB2 := Lib.hid (HN.out.trans (hb2.mono HN.out.size)); clear hb2)
          | (go_at_call 47; refine (mul_dec (b ^ k) b _ HDg.out HBd.out).mono ?_; rintro e w3 ⟨rfl, hb3⟩; have HB3 := Lib.hid (HB2.out.trans (hb3.mono HB2.out.size)); clear hb3))
        go_ret2
        exact ⟨by rw [outS_long (by have := HL.out; omega), outE_long (by have := HL.out; omega)]; rfl, HB3.out⟩
    · obtain rfl : k = n := by omega
      go_wp2
      go_ret2
      exact ⟨by rw [outS_lt HDg.out, outE_lt HDg.out]; rfl, HN.out⟩

set_option maxRecDepth 100000 in
set_option maxHeartbeats 1000000 in
theorem prods_walk (a b c g m : ByteArray) (e h i n : Int) (d : Nat) (x : Int) (w : World) (htab : Tab w)
    (h21 : Ans 21 #[.string (cutB a), .string (cutB b)] (.tuple #[.string c, .int .i64 e])) (h22 : Ans 22 #[.string (cutB a), .string (cutB b)] (.tuple #[.string c, .int .i64 e]))
    (h23 : Ans 23 #[.string (cutB a), .int .u32 (d : Int)] (.tuple #[.string g, .int .u32 h, .int .i64 i])) (h24 : Ans 24 #[.string (cutB a), .int .u32 (d : Int)] (.tuple #[.string g, .int .u32 h, .int .i64 i]))
    (h25 : Ans 25 #[.int .u32 (d : Int), .int .i64 x] (.tuple #[.string m, .int .i64 n])) (h26 : Ans 26 #[.int .u32 (d : Int), .int .i64 x] (.tuple #[.string m, .int .i64 n])) :
    Calls Tryd.prog 4 #[.string a, .string b, .int .u32 (d : Int), .int .i64 x] w fun e w' => e = .returned (.bool true) ∧ Below w.heap.size w w' := by
  have HT := Lib.hid htab
  have H21 := Lib.hid h21
  have H22 := Lib.hid h22
  have H23 := Lib.hid h23
  have H24 := Lib.hid h24
  have H25 := Lib.hid h25
  have H26 := Lib.hid h26
  clear htab h21 h22 h23 h24 h25 h26
  go_enter Tryd.func4, Tryd.ntmps4
  go_wp2_with (first
    | (go_at_call 11; refine (shown_calls _ HT.out).mono ?_; rintro e w1 ⟨rfl, hb1⟩; have HB1 := Lib.hid hb1; have HT1 := Lib.hid (HT.out.below hb1); clear hb1)
    | (go_at_call 12; refine (cut_calls _ _).mono ?_; rintro e w2 ⟨rfl, rfl⟩))
  generalize cutB a = A at *
  generalize cutB b = B at *
  refine (H21.out _ HT1.out).mono ?_
  rintro e' w2 ⟨rfl, hb2⟩
  have HB2 := Lib.hid (HB1.out.trans (hb2.mono HB1.out.size)); have HT2 := Lib.hid (HT1.out.below hb2); clear hb2
  go_wp2_with (first
    | (go_at_call 22; refine (H22.out _ HT2.out).mono ?_; rintro e' w3 ⟨rfl, hb3⟩; have HB3 := Lib.hid (HB2.out.trans (hb3.mono HB2.out.size)); have HT3 := Lib.hid (HT2.out.below hb3); clear hb3)
    | (go_at_call 23; refine (H23.out _ HT3.out).mono ?_; rintro e' w4 ⟨rfl, hb4⟩; have HB4 := Lib.hid (HB3.out.trans (hb4.mono HB3.out.size)); have HT4 := Lib.hid (HT3.out.below hb4); clear hb4)
    | (go_at_call 24; refine (H24.out _ HT4.out).mono ?_; rintro e' w5 ⟨rfl, hb5⟩; have HB5 := Lib.hid (HB4.out.trans (hb5.mono HB4.out.size)); have HT5 := Lib.hid (HT4.out.below hb5); clear hb5)
    | (go_at_call 25; refine (H25.out _ HT5.out).mono ?_; rintro e' w6 ⟨rfl, hb6⟩; have HB6 := Lib.hid (HB5.out.trans (hb6.mono HB5.out.size)); have HT6 := Lib.hid (HT5.out.below hb6); clear hb6)
    | (go_at_call 26; refine (H26.out _ HT6.out).mono ?_; rintro e' w7 ⟨rfl, hb7⟩; have HB7 := Lib.hid (HB6.out.trans (hb7.mono HB6.out.size)); clear hb7))
  go_ret
  exact ⟨rfl, HB7.out⟩

theorem same_tell {f f' : FuncId} {args : Array Value} {n : Nat} (h : ∀ w, Tab w → Calls Tryd.prog f args w (TellPost n w)) (h' : ∀ w, Tab w → Calls Tryd.prog f' args w (TellPost n w)) :
    ∃ g : ByteArray, ∃ x : Int, Ans f args (.tuple #[.string g, .int .i64 x]) ∧ Ans f' args (.tuple #[.string g, .int .i64 x]) := by
  rcases ans_tell h with ⟨l1, a1⟩ | ⟨l1, a1⟩ <;> rcases ans_tell h' with ⟨l2, a2⟩ | ⟨l2, a2⟩
  · exact ⟨_, _, a1, a2⟩
  · omega
  · omega
  · exact ⟨_, _, a1, a2⟩

theorem prods_calls (a b : ByteArray) (d : Nat) (x : Int) (hd : d < 4294967296) (w : World) (htab : Tab w) :
    Calls Tryd.prog 4 #[.string a, .string b, .int .u32 (d : Int), .int .i64 x] w fun e w' => e = .returned (.bool true) ∧ Below w.heap.size w w' := by
  have hM : ∃ g : ByteArray, ∃ x : Int, Ans 21 #[.string (cutB a), .string (cutB b)] (.tuple #[.string g, .int .i64 x]) ∧ Ans 22 #[.string (cutB a), .string (cutB b)] (.tuple #[.string g, .int .i64 x]) := by
    cases h : (isNat (cutB a).data.toList && isNat (cutB b).data.toList) with
    | false => exact ⟨_, _, Mul_nil _ _ h, ans_same fun w => rMul_no _ _ w h⟩
    | true =>
      obtain ⟨h1, h2⟩ := Bool.and_eq_true_iff.1 h
      exact same_tell (fun w ht => Mul_yes _ _ w h1 h2 ht) (fun w _ => rMul_yes _ _ w h1 h2)
  have hD : ∃ g : ByteArray, ∃ r i : Int, Ans 23 #[.string (cutB a), .int .u32 (d : Int)] (.tuple #[.string g, .int .u32 r, .int .i64 i]) ∧ Ans 24 #[.string (cutB a), .int .u32 (d : Int)] (.tuple #[.string g, .int .u32 r, .int .i64 i]) := by
    by_cases h : isNat (cutB a).data.toList = false ∨ d = 0
    · exact ⟨_, _, _, Div_nil _ _ h, ans_same fun w => rDiv_no _ _ w h⟩
    · obtain ⟨h1, h0⟩ := not_or.1 h
      have ha : isNat (cutB a).data.toList = true := by simpa using h1
      exact ⟨_, _, _, Div_ans _ d ha (by omega) hd, fun w _ => rDiv_yes _ d w ha (by omega) hd⟩
  have hP : ∃ g : ByteArray, ∃ n : Int, Ans 25 #[.int .u32 (d : Int), .int .i64 x] (.tuple #[.string g, .int .i64 n]) ∧ Ans 26 #[.int .u32 (d : Int), .int .i64 x] (.tuple #[.string g, .int .i64 n]) := by
    by_cases h : x < 0 ∨ 400 < x
    · exact ⟨noB, 10, fun w _ => Power_no d x w h, fun w _ => rPower_no d x w h⟩
    · obtain ⟨k, rfl⟩ := Int.eq_ofNat_of_zero_le (show 0 ≤ x by omega)
      exact same_tell (fun w ht => Power_yes d k w hd (by omega) ht) (fun w _ => rPower_yes d k w hd (by omega))
  obtain ⟨c, e, m1, m2⟩ := hM
  obtain ⟨g, r, i, d1, d2⟩ := hD
  obtain ⟨m, n, p1, p2⟩ := hP
  exact prods_walk a b c g m e r i n d x w htab m1 m2 d1 d2 p1 p2
end Go.Proofs.YtkdbiilpnijocaaDoor
