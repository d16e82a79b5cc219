/- The program's own: OfDec tells the float of a decimal. -/
import Derived.Test.YtgcalhnfoakggaaGreatDoorHJ
namespace Go.Proofs.YtgcalhnfoakggaaGreatDoor
open Go.RowKit
open Go.Lib (decDigits nDigits)

/-- The value of a decimal. -/
def upL (F : Nat) : List UInt8 := Lib.trimRightB (byteL F).reverse 0
def voR (c : Nat) (e : Int) : Option (Nat × Int) := if tfB c e = true ∧ (upL (fives c e)).length ≤ 8 then some (valN (fives c e) e) else none

theorem cap_bytes {F M : Nat} (h : F < cap7 M) : (byteL F).length ≤ M := by
  apply byteL_len
  refine Nat.lt_of_lt_of_le h ?_
  rw [cap7, show (256 : Nat) = 2 ^ 8 from by decide, ← Nat.pow_mul]
  exact Nat.pow_le_pow_right (by decide) (by omega)
theorem fives_lim {c q m : Nat} (hm : m = 100) (hc : c < big m) (hq : q ≤ m) : c * 5 ^ q < lim := by
  have h1 : 5 ^ q ≤ 10 ^ m := Nat.le_trans (Nat.pow_le_pow_right (by decide) hq) (Nat.pow_le_pow_left (by decide) m)
  have h2 : c * 5 ^ q < 10 ^ m * 10 ^ m := Nat.mul_lt_mul_of_lt_of_le hc h1 (Nat.pow_pos (by decide))
  rw [← Nat.pow_add] at h2
  exact lt_lim (k := m + m) (by omega) (by omega) h2
theorem big_lim {c m : Nat} (hm : m = 100) (hc : c < big m) : c < lim := lt_lim (k := m) (by omega) (by omega) hc
theorem tfB_iff {c : Nat} {e : Int} : tfB c e = true ↔ ¬ (e < 0 ∧ c % 5 ^ (-e).toNat ≠ 0) := by
  rw [tfB]
  by_cases h1 : e < 0 <;> by_cases h2 : c % 5 ^ (-e).toNat = 0 <;> simp [h1, h2]

theorem valueOf_calls (n : Bool) (c : Nat) (e : Int) (w : World) (hr : rightD n (decDigits c) e = true) (hT : Tf w) :
    Calls Tryz.prog 35 #[.agg #[.bool n, .string (decB c), .int .i64 e]] w fun o w' => o = .returned (voV (voR c e)) ∧ Below w.heap.size w w' := by
  obtain ⟨m, hm⟩ : ∃ m, m = 100 := ⟨_, rfl⟩
  have hb : c < big m ∧ -100 ≤ e ∧ e ≤ 100 := by
    by_cases hc : c = 0
    · subst hc
      obtain ⟨_, rfl⟩ := right_zero_is hr
      exact ⟨Nat.pow_pos (by decide), by decide, by decide⟩
    · obtain ⟨_, h2, h3, h4⟩ := right_c hr hc
      rw [← hm] at h2
      exact ⟨h2, h3, h4⟩
  obtain ⟨hcb, he1, he2⟩ := hb
  have htc := fun (W : World) (h : Tf W) => times_calls c e W he1 he2 (big_lim hm hcb) (fun h0 => fives_lim hm hcb (by omega)) h.2
  cases hb : tfB c e with
  | false =>
    rw [voR, hb, if_neg (by simp)]
    refine valueOf_no n (decB c) e w hT.2 (fun W h => ?_)
    have := times_calls c e W he1 he2 (big_lim hm hcb) (fun h0 => fives_lim hm hcb (by omega)) h
    rw [tfS, hb, if_neg (by decide)] at this
    exact this
  | true =>
    have hd := tfB_iff.1 hb
    obtain ⟨F, hF⟩ : ∃ F, F = fives c e := ⟨_, rfl⟩
    have hFb : F < cap7 m ∧ F < lim := by
      by_cases hc : c = 0
      · have : F = 0 := by
          subst hc
          obtain ⟨_, rfl⟩ := right_zero_is hr
          rw [hF]; decide
        rw [this]
        exact ⟨Nat.pow_pos (by decide), lt_lim (k := 1) (by decide) (by decide) (by decide)⟩
      · refine ⟨by rw [hF]; exact (fives_right hm hr hc hd).2.1, ?_⟩
        rw [hF, fives]
        split
        · exact Nat.lt_of_le_of_lt (Nat.div_le_self _ _) (big_lim hm hcb)
        · exact fives_lim hm hcb (by omega)
    obtain ⟨U, z, h1, h2, h3, h4, h5⟩ := bytes_split F
    have hAl := cap_bytes hFb.1
    obtain ⟨A, hA⟩ : ∃ A : ByteArray, A = ⟨(byteL F).reverse.toArray⟩ := ⟨_, rfl⟩
    obtain ⟨t, ht⟩ : ∃ t : ByteArray, t = ⟨(byteL U).reverse.toArray⟩ := ⟨_, rfl⟩
    have hAs : A.size = (byteL F).length := by rw [Lib.size_eq, hA]; simp
    have hts : t.size = (byteL U).length := by rw [Lib.size_eq, ht]; simp
    have hAd : A.data.toList = (byteL F).reverse := by rw [hA]
    have htd : t.data.toList = (byteL U).reverse := by rw [ht]
    have hup : (upL (fives c e)).length = t.size := by rw [← hF, upL, h4, List.length_reverse, hts]
    have key := valueOf_walk n (decB c) (decB F) A t e (valN F e) U (e + ((A.size : Int) - (t.size : Int)) * 8) (decide ((64 : Int) < (t.size : Int) * 8)) w hT (by omega) (by omega) (by omega) (by omega) rfl
      (by rw [htd, bv_byteL]) rfl
      (fun W h => by
        have := htc W h
        rw [tfS, hb, if_pos rfl, ← hF] at this
        exact this)
      (fun W => by
        have := Bytes_yes (decB F) W (isNat_B hFb.2)
        rw [dv_B, ← hA] at this
        exact this)
      (fun W => by
        have := Tryz.strings_TrimRight_one A 0 (by decide) W (by omega)
        rw [hAd, h4, ← ht] at this
        exact this)
      (fun W h hs => by
        have hs8 : t.size ≤ 8 := by simp at hs; omega
        have hU64 : U < 18446744073709551616 := by
          have h6 := bv_lt (byteL U).reverse
          rw [bv_byteL, List.length_reverse, ← hts] at h6
          have h7 : 256 ^ t.size ≤ 256 ^ 8 := Nat.pow_le_pow_right (by decide) hs8
          have h8 : (256 : Nat) ^ 8 = 18446744073709551616 := by decide
          omega
        have hz : (A.size : Int) - (t.size : Int) = (z : Int) := by rw [hAs, hts, h5]; omega
        have hv : valN F e = valN U (e + ((A.size : Int) - (t.size : Int)) * 8) := by
          rw [hz]
          by_cases hF0 : F = 0
          · rw [hF0, h3 hF0, valN_zero, valN_zero]
          · exact (val_upper hm hF0 hFb.1 h1).symm
        rw [hv]
        exact reduced_calls U _ W hU64 (by omega) (by omega) h.1.2)
    refine key.mono ?_
    rintro o w' ⟨rfl, hw⟩
    refine ⟨?_, hw⟩
    rw [voR, hb, hup, ← hF]
    by_cases h8 : t.size ≤ 8
    · rw [if_neg (by simp; omega), if_pos ⟨rfl, h8⟩]; rfl
    · rw [if_pos (by simp; omega), if_neg (by simp; omega)]; rfl

theorem ofDec_eq {n : Bool} {c : Nat} {e : Int} (hr : rightD n (decDigits c) e = true) :
    ofDecR n c e = ((voR c e).bind fun v => plc 2047 52 (-1074) v).map fun x => jn 2048 52 (if n = true then 1 else 0) x.1 x.2 := by
  obtain ⟨S, hS⟩ : ∃ S : Nat, S = if n = true then 1 else 0 := ⟨_, rfl⟩
  rw [← hS]
  cases hb : tfB c e with
  | false =>
    rw [voR, hb, if_neg (by simp)]
    have h1 : e < 0 ∧ c % 5 ^ (-e).toNat ≠ 0 := Decidable.byContradiction fun h => by rw [tfB_iff.2 h] at hb; cases hb
    have hc : c ≠ 0 := fun h => by rw [h] at h1; exact h1.2 (Nat.zero_mod _)
    rw [ofDecR, if_neg hc, if_pos h1]; rfl
  | true =>
    have hd := tfB_iff.1 hb
    rw [voR, hb]
    by_cases h8 : (upL (fives c e)).length ≤ 8
    · rw [if_pos ⟨rfl, h8⟩, ← pack_plc hr hd, hS]; rfl
    · rw [if_neg (fun h => h8 h.2)]
      obtain ⟨U, z, h1, h2, h3, h4, h5⟩ := bytes_split (fives c e)
      rw [upL, h4, List.length_reverse] at h8
      have hU : 256 ^ 8 ≤ U := by
        rcases Nat.lt_or_ge U (256 ^ 8) with h | h
        · exact absurd (byteL_len h) h8
        · exact h
      have hF0 : fives c e ≠ 0 := fun h => by rw [h3 h] at hU; exact absurd hU (by decide)
      exact pack_none hr hd h1 (h2 hF0) hU
/-- What OfDec tells. -/
def odR (n : Bool) (s : ByteArray) (e : Int) : Option Nat := if rightD n s.data.toList e = true then ofDecR n (dv s.data.toList) e else none

theorem voR_bounds {n : Bool} {c : Nat} {e : Int} {v : Nat × Int} (hr : rightD n (decDigits c) e = true) (h : voR c e = some v) : v.1 < 18446744073709551616 ∧ -100000 ≤ v.2 ∧ v.2 ≤ 100000 ∧ OkV v := by
  rw [voR] at h
  split at h
  · rename_i hh
    cases h
    by_cases hc : c = 0
    · subst hc
      obtain ⟨_, rfl⟩ := right_zero_is hr
      rw [show fives 0 0 = 0 from by decide, valN_zero]
      exact ⟨by decide, by decide, by decide, .inl ⟨rfl, rfl⟩⟩
    · obtain ⟨M, hM⟩ : ∃ M, M = 100 := ⟨_, rfl⟩
      obtain ⟨f0, f1, g1, g2⟩ := fives_right hM hr hc (tfB_iff.1 hh.1)
      obtain ⟨o, t, q1, q2, q3, q4, q5⟩ := val_big hM f0 f1 e
      obtain ⟨U, z, h1, h2, h3, h4, h5⟩ := bytes_split (fives c e)
      have hU8 : (byteL U).length ≤ 8 := by
        have := hh.2
        rw [upL, h4, List.length_reverse] at this
        exact this
      have hU64 : U < 2 ^ 64 := by
        have h6 := bv_lt (byteL U).reverse
        rw [bv_byteL, List.length_reverse] at h6
        have h7 : 256 ^ (byteL U).length ≤ 256 ^ 8 := Nat.pow_le_pow_right (by decide) hU8
        have h8 : (256 : Nat) ^ 8 = 2 ^ 64 := by decide
        rw [← h8]
        exact Nat.lt_of_lt_of_le h6 h7
      have hv := val_upper hM f0 f1 h1 (x := e)
      have hU0 : U ≠ 0 := fun h => f0 (by rw [h1, h, Nat.zero_mul])
      obtain ⟨o2, t2, r1, r2, r3, r4, r5, _⟩ := val_parts hU0 hU64 (e + (z : Int) * 8)
      rw [q5] at hv
      rw [r5] at hv
      have ho : o2 = o := (Prod.mk.inj hv).1
      rw [q5]
      refine ⟨?_, by show -100000 ≤ e + (t : Int); omega, by show e + (t : Int) ≤ 100000; omega, .inr q2⟩
      show o < _
      rw [← ho, ← e64]
      refine Nat.lt_of_le_of_lt ?_ hU64
      rw [r1]
      exact Nat.le_mul_of_pos_right _ (Nat.pow_pos (by decide))
  · cases h

theorem map_const {o : Option (Nat × Nat)} {f : Nat × Nat → Nat} {x0 : Nat × Nat} (h : ∀ x, o = some x → x = x0) : (o.map fun _ => f x0) = o.map f := by
  cases o with
  | none => rfl
  | some y => rw [Option.map_some, Option.map_some, h y rfl]
theorem OfDec_calls (n : Bool) (s : ByteArray) (e : Int) (w : World) (hT : Tf w) : Calls Tryz.prog 20 #[.agg #[.bool n, .string s, .int .i64 e]] w fun o w' => o = .returned (trV (odR n s e)) ∧ Below w.heap.size w w' := by
  cases hr : rightD n s.data.toList e with
  | false =>
    have key := OfDec_walk n false s e none (fun _ => none) 0 w hT (fun W => pRight_is n s e false W hr) (fun W _ h => by cases h) (fun W v h => by cases h) (fun W v x h => by cases h)
    rw [odR, hr]
    exact key
  | true =>
    have hs : decB (dv s.data.toList) = s := str_inj (by rw [decB_data]; exact dec_dv (right_parts hr).1)
    obtain ⟨c, hc⟩ : ∃ c, c = dv s.data.toList := ⟨_, rfl⟩
    rw [← hc] at hs
    subst hs
    rw [decB_data] at hr
    have hF : IsF 11 52 64 (-1074) := .inr (.inr ⟨rfl, rfl, rfl, rfl⟩)
    rw [odR, decB_data, hr, if_pos rfl, dv_dec, ofDec_eq hr]
    obtain ⟨x0, hx0⟩ : ∃ x0 : Nat × Nat, ∀ x, (voR c e).bind (fun v => plc 2047 52 (-1074) v) = some x → x = x0 := by
      cases h : (voR c e).bind (fun v => plc 2047 52 (-1074) v) with
      | none => exact ⟨(0, 0), fun x h => by cases h⟩
      | some y => exact ⟨y, fun x h => (Option.some.inj h).symm⟩
    have key := OfDec_walk n true (decB c) e (voR c e) (fun v => plc 2047 52 (-1074) v) (jn 2048 52 (if n = true then 1 else 0) x0.1 x0.2) w hT
      (fun W => pRight_is n (decB c) e true W (by rw [decB_data]; exact hr)) (fun W h _ => valueOf_calls n c e W hr h)
      (fun W v _ hv => by
        obtain ⟨b1, b2, b3, _⟩ := voR_bounds hr hv
        exact place_calls 11 52 64 (-1074) v W hF b1 b2 b3)
      (fun W v x _ hv hp => by
        obtain ⟨b1, b2, b3, b4⟩ := voR_bounds hr hv
        obtain ⟨g1, g2, _⟩ := plc_val (e := x.1) (f := x.2) (by decide) (by decide) b4 hp
        have hx : x = x0 := hx0 x (by rw [hv]; exact hp)
        have := bits_calls 11 52 64 (-1074) (if n = true then 1 else 0) x.1 x.2 W hF (by split <;> decide) (by rw [show (2 : Nat) ^ 11 = 2048 from by decide]; omega) g2
        rw [← hx]
        cases n
        · exact this
        · exact this)
    refine key.mono ?_
    rintro o w' ⟨rfl, hw⟩
    refine ⟨?_, hw⟩
    rw [if_pos (c := true = true) rfl]
    exact congrArg (fun r => Ending.returned (trV r)) (map_const (f := fun x => jn 2048 52 (if n = true then 1 else 0) x.1 x.2) hx0)
end Go.Proofs.YtgcalhnfoakggaaGreatDoor
