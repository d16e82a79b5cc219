/- The walk of the document's own Parse. -/
import Derived.Test.YtifccjchpciicaaDoorP3
namespace Go.Proofs.YtifccjchpciicaaDoor
open Go.RowKit
open Go.Lib (decDigits nDigits)

/-- What Parse tells. -/
def ParRes (s : ByteArray) : Option ((Bool × Nat × Int) × List UInt8) → Value
  | some ((n, a, e), r) => .tuple #[decV n (decB a) e, .string ⟨r.toArray⟩, .int .i64 0]
  | none => .tuple #[decV false noB 0, .string s, .int .i64 40]
def ParPost (s : ByteArray) (w : World) (o : Ending) (w' : World) : Prop := o = .returned (ParRes s (parseR s.data.toList)) ∧ Below w.heap.size w w'
theorem par_no {s : ByteArray} {w w' : World} (h : parseR s.data.toList = none) (hb : Below w.heap.size w w') : ParPost s w (.returned (.tuple #[.agg #[.bool false, .string ⟨#[]⟩, .int .i64 0], .string s, .int .i64 40])) w' := ⟨by rw [h]; rfl, hb⟩

theorem head_byte {s : ByteArray} (h : 0 < s.size) : s.data.toList.head? = some (byteAt s 0) := by
  rw [byteAt_list, List.head?_eq_getElem?]
  have hl : 0 < s.data.toList.length := by rw [← Lib.size_eq]; exact h
  rw [List.getElem?_eq_getElem hl]; rfl
theorem nil_of {s : ByteArray} (h : s.size = 0) : s.data.toList = [] := List.eq_nil_of_length_eq_zero (by rw [← Lib.size_eq]; exact h)
theorem sgn_at {s : ByteArray} (h : 0 < s.size) : sgnL s.data.toList = (((byteAt s 0).toNat : Int) == 45) := by
  rw [sgnL, head_byte h]
  by_cases hc : (byteAt s 0).toNat = 45
  · have : byteAt s 0 = 45 := UInt8.toNat_inj.1 hc
    rw [this]; rfl
  · have h2 : ¬ byteAt s 0 = 45 := fun e => hc (by rw [e]; rfl)
    rw [show ((((byteAt s 0).toNat : Int)) == 45) = false from by simp; omega]
    simpa using h2

theorem head_is {p : UInt8 → Bool} {s : ByteArray} (h : 0 < s.size) : headIs p s.data.toList = p (byteAt s 0) := by
  have hh := head_byte h
  cases e : s.data.toList with
  | nil => rw [e] at hh; cases hh
  | cons c r => rw [e] at hh; rw [← Option.some.inj hh]; rfl
theorem tail_is {p : UInt8 → Bool} {s : ByteArray} (h : 1 < s.size) : headIs p s.data.toList.tail = p (byteAt s 1) ∧ s.data.toList.tail.head? = some (byteAt s 1) := by
  have hl : 1 < s.data.toList.length := by rw [← Lib.size_eq]; exact h
  have hb : s.data.toList[1]? = some (byteAt s 1) := by rw [byteAt_list, List.getElem?_eq_getElem hl]; rfl
  cases e : s.data.toList with
  | nil => rw [e] at hl; simp at hl
  | cons c r =>
    cases e2 : r with
    | nil => rw [e, e2] at hl; simp at hl
    | cons d r2 =>
      rw [e, e2] at hb
      simp at hb
      subst hb
      exact ⟨rfl, rfl⟩
theorem tail_no {s : ByteArray} (h : ¬ 1 < s.size) : s.data.toList.tail = [] := List.eq_nil_of_length_eq_zero (by rw [List.length_tail, ← Lib.size_eq]; omega)
theorem isE_at (c : UInt8) : isE c = ((c.toNat : Int) == 101 || (c.toNat : Int) == 69) := by
  have h (k : UInt8) (m : Nat) (hm : k.toNat = m) : (c == k) = ((c.toNat : Int) == (m : Int)) := by
    by_cases e : c = k
    · subst e; rw [hm]; simp
    · have : ¬ c.toNat = m := fun e2 => e (UInt8.toNat_inj.1 (by rw [e2, hm]))
      rw [show (c == k) = false from by simpa using e, show ((c.toNat : Int) == (m : Int)) = false from by simp; omega]
  rw [isE, h 101 101 rfl, h 69 69 rfl]; rfl
theorem isS_at (c : UInt8) : isS c = ((c.toNat : Int) == 43 || (c.toNat : Int) == 45) := by
  have h (k : UInt8) (m : Nat) (hm : k.toNat = m) : (c == k) = ((c.toNat : Int) == (m : Int)) := by
    by_cases e : c = k
    · subst e; rw [hm]; simp
    · have : ¬ c.toNat = m := fun e2 => e (UInt8.toNat_inj.1 (by rw [e2, hm]))
      rw [show (c == k) = false from by simpa using e, show ((c.toNat : Int) == (m : Int)) = false from by simp; omega]
  rw [isS, h 43 43 rfl, h 45 45 rfl]; rfl
theorem ndig_at : ∀ (l : List UInt8) (j : Nat), j < ndig l → ∃ c, l[j]? = some c ∧ isD c = true
  | [], j, h => by simp [ndig] at h
  | c :: l, j, h => by
    by_cases hc : isD c = true
    · cases j with
      | zero => exact ⟨c, rfl, hc⟩
      | succ j =>
        have : j < ndig l := by
          rw [ndig, List.takeWhile_cons, hc] at h
          simp only [if_true, List.length_cons] at h
          exact Nat.lt_of_succ_lt_succ h
        obtain ⟨d, h1, h2⟩ := ndig_at l j this
        exact ⟨d, by simpa using h1, h2⟩
    · rw [ndig, List.takeWhile_cons, if_neg hc] at h; simp at h
theorem ext_all (s : ByteArray) : s.extract 0 s.size = s := str_inj (by rw [Lib.extract_data, List.drop_zero, Nat.sub_zero, List.take_of_length_le (by rw [← Lib.size_eq]; exact Nat.le_refl _)])
/-- What is made, and what is behind. -/
def withR (r : List UInt8) : Option (Bool × Nat × Int) → Option ((Bool × Nat × Int) × List UInt8)
  | none => none
  | some d => some (d, r)
theorem parse_with {l : List UInt8} {k : Int} {c : Nat} (h1 : ndig (offL l) ≠ 0) (h2 : expoR (r2L (offL l)) = some (k, c)) : parseR l = withR ((r2L (offL l)).drop c) (makeR (sgnL l) (allD (offL l)) (-(fracN (r1L (offL l)) : Int) + k)) := by
  rw [parseR_eq, parseC, if_neg h1, h2]
  simp only
  cases makeR (sgnL l) (allD (offL l)) (-(fracN (r1L (offL l)) : Int) + k) with
  | none => rfl
  | some d => rfl
/-- What lies behind the exponent. -/
def ExpRel (R2 : ByteArray) (f : Nat) (r x : Value) : Prop := ∃ (k : Int) (c : Nat), expoR R2.data.toList = some (k, c) ∧ r = .string (R2.extract c R2.size) ∧ x = .int .i64 (-(f : Int) + k)

set_option maxRecDepth 100000 in
set_option maxHeartbeats 4000000 in
theorem rParse_calls (s : ByteArray) (w : World) (hs : s.size ≤ 100000) : Calls Tryd.prog 18 #[.string s] w (ParPost s w) := by
  obtain ⟨b, hb⟩ : ∃ b, b = sgnL s.data.toList := ⟨_, rfl⟩
  have HB := Lib.hid hb
  clear hb
  go_enter Tryd.func18, Tryd.ntmps18
  go_upto_region 2 with fail
  go_cut [6] (fun v wx => v = .bool b ∧ wx = w.alloc (.cells #[.bool false, .string ⟨#[]⟩, .int .i64 0] 23))
  case first =>
    by_cases h0 : 0 < s.size
    · have hsg := HB.out.trans (sgn_at h0)
      have hv : (s[0]'h0).toNat = (byteAt s 0).toNat := by rw [byteAt_eq s 0 h0]
      have H := Lib.hid hsg
      clear hsg
      go_wp2_with fail
      go_meet
      case rel => exact ⟨by rw [H.out], rfl⟩
    · have H : Hid (b = false) := Lib.hid (by rw [HB.out, nil_of (by omega)]; rfl)
      go_wp2_with fail
      go_meet
      case rel => exact ⟨by rw [H.out], rfl⟩
  case rest =>
    obtain ⟨rfl, rfl⟩ := hcut
    obtain ⟨r0, hr0, hr0s⟩ : ∃ r0 : ByteArray, r0 = (if b = true then s.extract 1 s.size else s) ∧ r0.data.toList = offL s.data.toList := ⟨_, rfl, by
      rw [offL, ← HB.out]; split
      · rw [Lib.extract_data, List.drop_one, List.take_of_length_le (by rw [List.length_tail, ← Lib.size_eq]; exact Nat.le_refl _)]
      · rfl⟩
    have hr0l : r0.size ≤ s.size := by rw [hr0]; split <;> simp
    have HR0 := Lib.hid hr0
    have HR0s := Lib.hid hr0s
    clear hr0 hr0s
    go_upto_if 24 with fail
    go_cut [5] (fun v wx => v = .string r0 ∧ wx = w.alloc (.cells #[.bool false, .string ⟨#[]⟩, .int .i64 0] 23))
    case first =>
      cases hb : b with
      | true =>
        have h0 : 0 < s.size := by
          rcases Nat.eq_zero_or_pos s.size with h | h
          · have h2 := HB.out
            rw [nil_of h, hb] at h2; cases h2
          · exact h
        have H := HR0.out
        rw [if_pos hb] at H
        have HR := Lib.hid H
        clear H HB HR0
        subst hb
        go_wp2_with fail
        go_meet
        case rel => exact ⟨by rw [HR.out], rfl⟩
      | false =>
        have H := HR0.out
        rw [if_neg (by rw [hb]; decide)] at H
        have HR := Lib.hid H
        clear H HB HR0
        subst hb
        go_wp2_with fail
        go_meet
        case rel => exact ⟨by rw [HR.out], rfl⟩
    case rest =>
      obtain ⟨rfl, rfl⟩ := hcut
      obtain ⟨n0, hn0⟩ : ∃ n0, n0 = ndig r0.data.toList := ⟨_, rfl⟩
      have DC := fun W => digits_calls r0 W (by omega)
      rw [← hn0] at DC
      have HDC := Lib.hid DC
      have HN0 := Lib.hid hn0
      clear DC hn0
      by_cases hz : n0 = 0
      · subst hz
        have HP : Hid (parseR s.data.toList = none) := Lib.hid (by rw [parseR_eq, parseC, ← HR0s.out, ← HN0.out]; rfl)
        go_wp2_with (go_at_call 34; refine (HDC.out _).mono ?_; rintro o w1 ⟨rfl, rfl⟩)
        refine bodyPost_ret (v := .tuple #[.agg #[.bool false, .string ⟨#[]⟩, .int .i64 0], .string s, .int .i64 40]) (by simp [results, Tryd.results18, go_sem]) rfl ?_
        exact par_no HP.out ((Below.refl _ _).alloc (Nat.le_refl _) _)
      · have h0 : 0 < r0.size := by
          rcases Nat.eq_zero_or_pos r0.size with h | h
          · exact absurd (by rw [HN0.out, nil_of h]; rfl) hz
          · exact h
        have hn0l : n0 ≤ r0.size := by rw [HN0.out, Lib.size_eq]; exact ndig_le _
        have hzb : ((n0 : Int) == 0) = false := by simp; omega
        obtain ⟨n1, hn1⟩ : ∃ n1, n1 = leadN r0.data.toList := ⟨_, rfl⟩
        have hn1l : n1 ≤ r0.size := by
          rw [hn1, leadN]; split
          · omega
          · rw [← HN0.out]; exact hn0l
        have HN1 := Lib.hid hn1
        clear hn1
        go_upto_if 35 with (go_at_call 34; refine (HDC.out _).mono ?_; rintro o w1 ⟨rfl, rfl⟩)
        go_cut [7] (fun v wx => v = .int .i64 (n1 : Int) ∧ wx = w.alloc (.cells #[.bool false, .string ⟨#[]⟩, .int .i64 0] 23))
        case first =>
          have hv : (r0[0]'h0).toNat = (byteAt r0 0).toNat := by rw [byteAt_eq r0 0 h0]
          have hh := head_byte h0
          by_cases hc : (byteAt r0 0).toNat = 48
          · have hcb : (((byteAt r0 0).toNat : Int) == 48) = true := by rw [hc]; rfl
            have H : Hid (n1 = 1) := Lib.hid (by rw [HN1.out, leadN, if_pos (by rw [hh, show byteAt r0 0 = 48 from UInt8.toNat_inj.1 hc])])
            clear hh hc
            go_wp2_with fail
            go_meet
            case rel => exact ⟨by rw [H.out]; rfl, rfl⟩
          · have hcb : (((byteAt r0 0).toNat : Int) == 48) = false := by simp; omega
            have H : Hid (n1 = n0) := Lib.hid (by
              rw [HN1.out, leadN, if_neg (by
                rw [hh]; intro e; exact hc (by rw [Option.some.inj e]; rfl)), HN0.out])
            clear hh hc
            go_wp2_with fail
            go_meet
            case rel => exact ⟨by rw [H.out], rfl⟩
        case rest =>
          obtain ⟨rfl, rfl⟩ := hcut
          obtain ⟨A1, hA1⟩ : ∃ A1 : ByteArray, A1 = r0.extract 0 n1 := ⟨_, rfl⟩
          obtain ⟨R1, hR1⟩ : ∃ R1 : ByteArray, R1 = r0.extract n1 r0.size := ⟨_, rfl⟩
          go_upto_region 12 with fail
          rw [← hA1, ← hR1]
          have hR1s : R1.data.toList = r1L (offL s.data.toList) := by
            rw [hR1, Lib.extract_data, List.take_of_length_le (by rw [List.length_drop, ← Lib.size_eq]; exact Nat.le_refl _), HN1.out, r1L, HR0s.out]
          have hA1s : A1.data.toList = (offL s.data.toList).take (leadN (offL s.data.toList)) := by
            rw [hA1, Lib.extract_data, List.drop_zero, Nat.sub_zero, HN1.out, HR0s.out]
          have hA1l : A1.size ≤ 100000 := by rw [hA1, ByteArray.size_extract]; omega
          have hR1l : R1.size ≤ 100000 := by rw [hR1, ByteArray.size_extract]; omega
          have hAR : A1.size + R1.size ≤ 100000 := by rw [hA1, hR1, ByteArray.size_extract, ByteArray.size_extract]; omega
          have HR1s := Lib.hid hR1s
          have HA1s := Lib.hid hA1s
          have HNz : Hid (ndig (offL s.data.toList) ≠ 0) := Lib.hid (by rw [← HR0s.out, ← HN0.out]; exact hz)
          clear hR1s hA1s hA1 hR1 hn1l hn0l hzb h0 HN1 HN0 HDC HR0 HR0s hr0l hz
          obtain ⟨f, hf⟩ : ∃ f, f = fracN R1.data.toList := ⟨_, rfl⟩
          obtain ⟨fb, hfb⟩ : ∃ fb, fb = decide (0 < f) := ⟨_, rfl⟩
          have HF := Lib.hid hf
          have HFb := Lib.hid hfb
          clear hf hfb
          go_upto_region 13 with fail
          go_cut [55] (fun v wx => v = .bool fb ∧ wx = w.alloc (.cells #[.bool false, .string ⟨#[]⟩, .int .i64 0] 23))
          case first =>
            by_cases h1 : 1 < R1.size
            · have h0 : 0 < R1.size := by omega
              have hv : (R1[0]'h0).toNat = (byteAt R1 0).toNat := by rw [byteAt_eq R1 0 h0]
              have hh := head_byte h0
              by_cases hc : (byteAt R1 0).toNat = 46
              · have hcb : (((byteAt R1 0).toNat : Int) == 46) = true := by rw [hc]; rfl
                have htl : (R1.extract 1 R1.size).data.toList = R1.data.toList.tail := by rw [drop_one, List.drop_one]
                have DC := fun W => digits_calls (R1.extract 1 R1.size) W (by rw [ByteArray.size_extract]; omega)
                rw [htl, show ndig R1.data.toList.tail = f from by rw [HF.out, fracN, if_pos (by rw [hh, show byteAt R1 0 = 46 from UInt8.toNat_inj.1 hc])]] at DC
                have HDC := Lib.hid DC
                clear hh hc htl DC
                go_wp2_with (go_at_call 34; refine (HDC.out _).mono ?_; rintro o w1 ⟨rfl, rfl⟩)
                go_meet
                case rel => exact ⟨by rw [HFb.out], rfl⟩
              · have hcb : (((byteAt R1 0).toNat : Int) == 46) = false := by simp; omega
                have H : Hid (fb = false) := Lib.hid (by
                  rw [HFb.out, HF.out, fracN, if_neg (by rw [hh]; intro e; exact hc (by rw [Option.some.inj e]; rfl))]; rfl)
                clear hh hc
                go_wp2_with fail
                go_meet
                case rel => exact ⟨by rw [H.out], rfl⟩
            · have H : Hid (fb = false) := Lib.hid (by
                rw [HFb.out, HF.out, fracN]
                split
                · rw [show R1.data.toList.tail = [] from List.eq_nil_of_length_eq_zero (by rw [List.length_tail, ← Lib.size_eq]; omega)]; rfl
                · rfl)
              go_wp2_with fail
              go_meet
              case rel => exact ⟨by rw [H.out], rfl⟩
          case rest =>
            obtain ⟨rfl, rfl⟩ := hcut
            obtain ⟨AL, hAL⟩ : ∃ AL : ByteArray, AL = (if fb = true then A1 ++ R1.extract 1 (1 + f) else A1) := ⟨_, rfl⟩
            obtain ⟨R2, hR2⟩ : ∃ R2 : ByteArray, R2 = (if fb = true then R1.extract (1 + f) R1.size else R1) := ⟨_, rfl⟩
            have hALs : AL.data.toList = allD (offL s.data.toList) := by
              rw [hAL, allD, ← HA1s.out, ← HR1s.out, ← HF.out]
              split
              · rw [app_data, Lib.extract_data, List.drop_one, Nat.add_sub_cancel_left]
              · rename_i h
                have : f = 0 := by
                  rcases Nat.eq_zero_or_pos f with h2 | h2
                  · exact h2
                  · exact absurd (by rw [HFb.out]; simpa using h2) h
                rw [this, List.take_zero, List.append_nil]
            have hR2s : R2.data.toList = r2L (offL s.data.toList) := by
              rw [hR2, r2L, ← HR1s.out, ← HF.out]
              by_cases h : f = 0
              · rw [if_pos h, if_neg]
                rw [HFb.out, h]; decide
              · rw [if_neg h, if_pos (by rw [HFb.out]; simp; omega), Lib.extract_data, List.take_of_length_le (by rw [List.length_drop, ← Lib.size_eq]; exact Nat.le_refl _)]
            have hfl : f ≤ R1.size - 1 := by
              rw [HF.out, fracN]
              split
              · have := ndig_le R1.data.toList.tail
                rw [List.length_tail, ← Lib.size_eq] at this; exact this
              · omega
            have hR2l : R2.size ≤ 100000 := by rw [hR2]; split; · rw [ByteArray.size_extract]; omega
                                               · exact hR1l
            have hALl : AL.size ≤ 100000 := by rw [hAL]; split; · rw [ByteArray.size_append, ByteArray.size_extract]; omega
                                               · exact hA1l
            have HALs := Lib.hid hALs
            have HR2s := Lib.hid hR2s
            have HAL := Lib.hid hAL
            have HR2 := Lib.hid hR2
            clear hALs hR2s hAL hR2
            go_upto_if 55 with fail
            go_cut [5, 8, 9] (fun r a x wx => r = .string R2 ∧ a = .string AL ∧ x = .int .i64 (-(f : Int)) ∧ wx = w.alloc (.cells #[.bool false, .string ⟨#[]⟩, .int .i64 0] 23))
            case first =>
              cases hb2 : fb with
              | true =>
                have hf0 : 0 < f := by have := HFb.out; rw [hb2] at this; simpa using this.symm
                have h0 : 0 < R1.size := by omega
                have hh : R1.data.toList.head? = some 46 := by
                  rcases Decidable.em (R1.data.toList.head? = some 46) with h | h
                  · exact h
                  · rw [HF.out, fracN, if_neg h] at hf0; omega
                have htl : (R1.extract 1 R1.size).data.toList = R1.data.toList.tail := by rw [drop_one, List.drop_one]
                have DC := fun W => digits_calls (R1.extract 1 R1.size) W (by rw [ByteArray.size_extract]; omega)
                rw [htl, show ndig R1.data.toList.tail = f from by rw [HF.out, fracN, if_pos hh]] at DC
                have HDC := Lib.hid DC
                have H1 : Hid (AL = A1 ++ R1.extract 1 (1 + f)) := Lib.hid (by rw [HAL.out, if_pos hb2])
                have H2 : Hid (R2 = R1.extract (1 + f) R1.size) := Lib.hid (by rw [HR2.out, if_pos hb2])
                have hsz : A1.size + (R1.extract 1 (1 + f)).size ≤ 100000 := by rw [ByteArray.size_extract]; omega
                clear hh htl DC HFb HAL HR2 HB
                subst hb2
                go_wp2_with (go_at_call 34; refine (HDC.out _).mono ?_; rintro o w1 ⟨rfl, rfl⟩)
                go_meet
                case rel => exact ⟨by rw [H2.out], by rw [H1.out], rfl, rfl⟩
              | false =>
                have hf0 : f = 0 := by
                  rcases Nat.eq_zero_or_pos f with h2 | h2
                  · exact h2
                  · have := HFb.out; rw [hb2] at this; simp at this; omega
                have H1 : Hid (AL = A1) := Lib.hid (by rw [HAL.out, if_neg (by rw [hb2]; decide)])
                have H2 : Hid (R2 = R1) := Lib.hid (by rw [HR2.out, if_neg (by rw [hb2]; decide)])
                have H3 := Lib.hid hf0
                clear HFb HAL HR2 hf0 HB
                subst hb2
                go_wp2_with fail
                go_meet
                case rel => exact ⟨by rw [H2.out], by rw [H1.out], by rw [H3.out]; rfl, rfl⟩
            case rest =>
              obtain ⟨rfl, rfl, rfl, rfl⟩ := hcut
              have hf1 : f ≤ 100000 := by omega
              have HF2 : Hid (f = fracN (r1L (offL s.data.toList))) := Lib.hid (by rw [HF.out, HR1s.out])
              clear HA1s HR1s HAL HR2 HF HFb hA1l hR1l hAR hfl
              obtain ⟨eb, heb⟩ : ∃ eb, eb = headIs isE R2.data.toList := ⟨_, rfl⟩
              have HEb := Lib.hid heb
              clear heb
              go_upto_region 18 with fail
              go_cut [83] (fun v wx => v = .bool eb ∧ wx = w.alloc (.cells #[.bool false, .string ⟨#[]⟩, .int .i64 0] 23))
              case first =>
                by_cases h0 : 0 < R2.size
                · have hv : (R2[0]'h0).toNat = (byteAt R2 0).toNat := by rw [byteAt_eq R2 0 h0]
                  have he := HEb.out
                  rw [head_is h0, isE_at] at he
                  have HE := Lib.hid he
                  clear he
                  by_cases hc : (byteAt R2 0).toNat = 101
                  · have hcb : (((byteAt R2 0).toNat : Int) == 101) = true := by rw [hc]; rfl
                    rw [hcb] at HE
                    go_wp2_with fail
                    go_meet
                    case rel => exact ⟨by rw [HE.out]; rfl, rfl⟩
                  · have hcb : (((byteAt R2 0).toNat : Int) == 101) = false := by simp; omega
                    rw [hcb] at HE
                    go_wp2_with fail
                    go_meet
                    case rel => exact ⟨by rw [HE.out]; rfl, rfl⟩
                · have H : Hid (eb = false) := Lib.hid (by rw [HEb.out, nil_of (by omega)]; rfl)
                  go_wp2_with fail
                  go_meet
                  case rel => exact ⟨by rw [H.out], rfl⟩
              case rest =>
                obtain ⟨rfl, rfl⟩ := hcut
                go_upto_if 83 with fail
                go_cut [5, 9] (fun r x wx => ExpRel R2 f r x ∧ wx = w.alloc (.cells #[.bool false, .string ⟨#[]⟩, .int .i64 0] 23))
                case first =>
                  cases hb2 : eb with
                  | false =>
                    have HX : Hid (ExpRel R2 f (.string R2) (.int .i64 (-(f : Int)))) := Lib.hid ⟨0, 0, by rw [expoR, ← HEb.out, hb2]; rfl, by rw [ext_all], by rw [Int.add_zero]⟩
                    clear HEb
                    subst hb2
                    go_wp2_with fail
                    go_meet
                    case rel => exact ⟨HX.out, rfl⟩
                  | true =>
                    have h0 : 0 < R2.size := by
                      rcases Nat.eq_zero_or_pos R2.size with h | h
                      · have h2 := HEb.out
                        rw [nil_of h, hb2] at h2; cases h2
                      · exact h
                    have HE : Hid (headIs isE R2.data.toList = true) := Lib.hid (by rw [← HEb.out, hb2])
                    obtain ⟨sb, hsb⟩ : ∃ sb, sb = headIs isS R2.data.toList.tail := ⟨_, rfl⟩
                    have HSb := Lib.hid hsb
                    clear hsb HEb
                    subst hb2
                    go_upto_region 20 with fail
                    go_cut [96] (fun v wx => v = .bool sb ∧ wx = w.alloc (.cells #[.bool false, .string ⟨#[]⟩, .int .i64 0] 23))
                    case first =>
                      by_cases h1 : 1 < R2.size
                      · have hv : (R2[1]'h1).toNat = (byteAt R2 1).toNat := by rw [byteAt_eq R2 1 h1]
                        have he := HSb.out
                        rw [(tail_is h1).1, isS_at] at he
                        have HE2 := Lib.hid he
                        clear he
                        by_cases hc : (byteAt R2 1).toNat = 43
                        · have hcb : (((byteAt R2 1).toNat : Int) == 43) = true := by rw [hc]; rfl
                          rw [hcb] at HE2
                          go_wp2_with fail
                          go_meet
                          case rel => exact ⟨by rw [HE2.out]; rfl, rfl⟩
                        · have hcb : (((byteAt R2 1).toNat : Int) == 43) = false := by simp; omega
                          rw [hcb] at HE2
                          go_wp2_with fail
                          go_meet
                          case rel => exact ⟨by rw [HE2.out]; rfl, rfl⟩
                      · have H : Hid (sb = false) := Lib.hid (by rw [HSb.out, tail_no h1]; rfl)
                        go_wp2_with fail
                        go_meet
                        case rel => exact ⟨by rw [H.out], rfl⟩
                    case rest =>
                      obtain ⟨rfl, rfl⟩ := hcut
                      obtain ⟨q, hq⟩ : ∃ q, q = atN R2.data.toList := ⟨_, rfl⟩
                      have hqs : q = if sb = true then 2 else 1 := by rw [hq, atN, ← HSb.out]
                      have HQ := Lib.hid hq
                      have HQs := Lib.hid hqs
                      have hql : q ≤ R2.size ∧ 1 ≤ q := by
                        rw [hqs]
                        split
                        · rename_i h
                          have : 1 < R2.size := by
                            rcases Nat.lt_or_ge 1 R2.size with h2 | h2
                            · exact h2
                            · have h3 := HSb.out
                              rw [tail_no (by omega), h] at h3; cases h3
                          omega
                        · omega
                      obtain ⟨hq1, hq2⟩ := hql
                      clear hq hqs
                      go_upto_if 96 with fail
                      go_cut [10] (fun v wx => v = .int .i64 (q : Int) ∧ wx = w.alloc (.cells #[.bool false, .string ⟨#[]⟩, .int .i64 0] 23))
                      case first =>
                        cases hb3 : sb with
                        | true =>
                          have H : Hid (q = 2) := Lib.hid (by rw [HQs.out, if_pos hb3])
                          clear HQs HSb
                          subst hb3
                          go_wp2_with fail
                          go_meet
                          case rel => exact ⟨by rw [H.out]; rfl, rfl⟩
                        | false =>
                          have H : Hid (q = 1) := Lib.hid (by rw [HQs.out, if_neg (by rw [hb3]; decide)])
                          clear HQs HSb
                          subst hb3
                          go_wp2_with fail
                          go_meet
                          case rel => exact ⟨by rw [H.out]; rfl, rfl⟩
                      case rest =>
                        obtain ⟨rfl, rfl⟩ := hcut
                        obtain ⟨E, hE⟩ : ∃ E : ByteArray, E = R2.extract q R2.size := ⟨_, rfl⟩
                        have hEs : E.data.toList = R2.data.toList.drop q := by rw [hE, Lib.extract_data, List.take_of_length_le (by rw [List.length_drop, ← Lib.size_eq]; exact Nat.le_refl _)]
                        have hEz : E.size = R2.size - q := by rw [hE, ByteArray.size_extract]; omega
                        obtain ⟨m, hm⟩ : ∃ m, m = ndig E.data.toList := ⟨_, rfl⟩
                        have DC := fun W => digits_calls E W (by omega)
                        rw [← hm, hE] at DC
                        have hml : m ≤ R2.size - q := by rw [hm, ← hEz, Lib.size_eq]; exact ndig_le _
                        have HDC := Lib.hid DC
                        have HM : Hid (m = ndig (R2.data.toList.drop (atN R2.data.toList))) := Lib.hid (by rw [hm, hEs, HQ.out])
                        have HEs := Lib.hid hEs
                        have HM2 := Lib.hid hm
                        have HEx := Lib.hid hE
                        have HEz := Lib.hid hEz
                        clear DC hm hEs hE HQs HSb hEz
                        by_cases h4 : 4 < m
                        · have HP : Hid (parseR s.data.toList = none) := Lib.hid (by
                            rw [parseR_eq, parseC, if_neg HNz.out, ← HR2s.out, expoR, if_pos HE.out, ← HM.out, if_pos h4])
                          have h4i : (4 : Int) < (m : Int) := by omega
                          go_wp2_with (go_at_call 34; refine (HDC.out _).mono ?_; rintro o w1 ⟨rfl, rfl⟩)
                          refine bodyPost_ret (v := .tuple #[.agg #[.bool false, .string ⟨#[]⟩, .int .i64 0], .string s, .int .i64 40]) (by simp [results, Tryd.results18, go_sem]) rfl ?_
                          exact par_no HP.out ((Below.refl _ _).alloc (Nat.le_refl _) _)
                        · by_cases hm0 : m = 0
                          · have HX : Hid (ExpRel R2 f (.string R2) (.int .i64 (-(f : Int)))) := Lib.hid ⟨0, 0, by
                              rw [expoR, if_pos HE.out, ← HM.out, if_neg h4, if_pos hm0], by rw [ext_all], by rw [Int.add_zero]⟩
                            subst hm0
                            go_wp2_with (go_at_call 34; refine (HDC.out _).mono ?_; rintro o w1 ⟨rfl, rfl⟩)
                            go_meet
                            case rel => exact ⟨HX.out, rfl⟩
                          · have hm1 : 0 < m := by omega
                            have hm1i : (0 : Int) < (m : Int) := by omega
                            have h4i : ¬ (4 : Int) < (m : Int) := by omega
                            go_wp2_with (go_at_call 34; refine (HDC.out _).mono ?_; rintro o w1 ⟨rfl, rfl⟩)
                            go_loop [11, 12] (fun kv iv => ∃ (j D : Nat), j ≤ m ∧ iv = .int .i64 (j : Int) ∧ kv = .int .i64 (D : Int) ∧ Hid (D = dv (E.data.toList.take j)) ∧ D < 10000) (fun _ iv => m - (intOf iv).toNat)
                            case atStart => exact ⟨0, 0, Nat.zero_le _, rfl, rfl, Lib.hid (by rw [List.take_zero]; rfl), by omega⟩
                            case round =>
                              obtain ⟨j, D, hj, rfl, rfl, HD, hDl⟩ := hrel
                              by_cases hjm : j < m
                              · have hjE : j < E.size := by have := HEz.out; omega
                                have hix : q + j < R2.size := by omega
                                obtain ⟨x, hx1, hx2⟩ := ndig_at E.data.toList j (by rw [← HM2.out]; exact hjm)
                                have hbe : byteAt E j = byteAt R2 (q + j) := by
                                  rw [byteAt_list, byteAt_list, HEs.out, List.getElem?_drop]
                                have hxe : byteAt E j = x := by rw [byteAt_list, hx1]; rfl
                                have hv : (R2[q + j]'hix).toNat = (byteAt R2 (q + j)).toNat := by rw [byteAt_eq R2 (q + j) hix]
                                have hdi := (isD_iff x).1 hx2
                                have hst := dv_take E j hjE
                                rw [hbe] at hst hxe
                                rw [← hxe] at hdi
                                obtain ⟨c, hc⟩ : ∃ c, c = (byteAt R2 (q + j)).toNat := ⟨_, rfl⟩
                                rw [← hc] at hst hdi hv
                                obtain ⟨hd1, hd2⟩ := hdi
                                have hlt : dv (E.data.toList.take (j + 1)) < 10000 := by
                                  have hta : (E.data.toList.take (j + 1)).all isD = true := by
                                    rw [List.all_eq_true]
                                    intro y hy
                                    obtain ⟨p, hp, rfl⟩ := List.getElem_of_mem hy
                                    rw [List.length_take] at hp
                                    obtain ⟨z, hz1, hz2⟩ := ndig_at E.data.toList p (by rw [← HM2.out]; omega)
                                    have hz3 : (E.data.toList.take (j + 1))[p]? = some z := by rw [List.getElem?_take_of_lt (by omega)]; exact hz1
                                    rw [List.getElem?_eq_getElem (by rw [List.length_take]; omega)] at hz3
                                    rw [Option.some.inj hz3]; exact hz2
                                  have h5 := dv_lt _ hta
                                  have h6 : (E.data.toList.take (j + 1)).length ≤ 4 := by rw [List.length_take]; omega
                                  exact Nat.lt_of_lt_of_le h5 (Nat.pow_le_pow_right (by decide) h6 : 10 ^ _ ≤ 10 ^ 4)
                                rw [hst, ← HD.out] at hlt
                                have HST : Hid (D * 10 + (c - 48) = dv (E.data.toList.take (j + 1))) := Lib.hid (by rw [hst, ← HD.out])
                                have hixi : (q : Int) + (j : Int) < (R2.size : Int) := by omega
                                have hwr : IntKind.u8.wrap ((c : Int) - 48) = (c : Int) - 48 := by rw [IntKind.wrap_u8]; omega
                                clear hx1 hx2 hbe hxe hst hc
                                go_wp2
                                go_round
                                case rel => exact ⟨j + 1, D * 10 + (c - 48), hjm, by go_num, by congr 1; omega, HST, hlt⟩
                                case measure => simp [intOf]; omega
                              · obtain rfl : j = m := by omega
                                have h1 : 1 < R2.size := by omega
                                have hv : (R2[1]'h1).toNat = (byteAt R2 1).toNat := by rw [byteAt_eq R2 1 h1]
                                have hth := (tail_is (p := isS) h1).2
                                have hqm : (q : Int) + (j : Int) ≤ (R2.size : Int) := by omega
                                have hdv : dv ((R2.data.toList.drop (atN R2.data.toList)).take (ndig (R2.data.toList.drop (atN R2.data.toList)))) = D := by
                                  rw [← HM.out, ← HQ.out, ← HEs.out, HD.out]
                                by_cases hc : (byteAt R2 1).toNat = 45
                                · have hcb : (((byteAt R2 1).toNat : Int) == 45) = true := by rw [hc]; rfl
                                  have HX : Hid (ExpRel R2 f (.string (R2.extract (q + j) R2.size)) (.int .i64 (-(f : Int) + -(D : Int)))) := Lib.hid ⟨-(D : Int), q + j, by
                                    rw [expoR, if_pos HE.out, ← HM.out, if_neg h4, if_neg hm0, if_pos (by rw [hth, show byteAt R2 1 = 45 from UInt8.toNat_inj.1 hc]), HM.out, hdv, ← HM.out, ← HQ.out], rfl, rfl⟩
                                  clear hth hdv hc
                                  go_wp2_with fail
                                  go_meet
                                  case rel => exact ⟨HX.out, rfl⟩
                                · have hcb : (((byteAt R2 1).toNat : Int) == 45) = false := by simp; omega
                                  have HX : Hid (ExpRel R2 f (.string (R2.extract (q + j) R2.size)) (.int .i64 (-(f : Int) + (D : Int)))) := Lib.hid ⟨(D : Int), q + j, by
                                    rw [expoR, if_pos HE.out, ← HM.out, if_neg h4, if_neg hm0, if_neg (by rw [hth]; intro e; exact hc (by rw [Option.some.inj e]; rfl)), HM.out, hdv, ← HM.out, ← HQ.out], rfl, rfl⟩
                                  clear hth hdv hc
                                  go_wp2_with fail
                                  go_meet
                                  case rel => exact ⟨HX.out, rfl⟩
                case rest =>
                  obtain ⟨⟨k, c, hx, rfl, rfl⟩, rfl⟩ := hcut
                  obtain ⟨x, hxe⟩ : ∃ x : Int, x = -(f : Int) + k := ⟨_, rfl⟩
                  obtain ⟨R, hR⟩ : ∃ R, R = makeR b AL.data.toList x := ⟨_, rfl⟩
                  have HMk : Hid (∀ W, Calls Tryd.prog 14 #[.bool b, .string AL, .int .i64 x] W fun o w' => o = .returned (.tuple #[DecVal R, .int .i64 (decE R)]) ∧ Below W.heap.size W w') := Lib.hid (fun W => (rMake_calls b AL x W).mono fun o w' ⟨h1, h2⟩ => ⟨by rw [h1, ← hR, DecRes_eq], h2⟩)
                  have HP : Hid (parseR s.data.toList = withR (R2.data.toList.drop c) R) := Lib.hid (by
                    rw [HR2s.out] at hx
                    rw [parse_with HNz.out hx, hR, hxe, HF2.out, HALs.out, HB.out, HR2s.out])
                  rw [← hxe]
                  clear hx hxe hR HF2 HB HEb
                  rcases R with _ | ⟨n2, a2, e2⟩
                  · go_wp2_with (go_at_call 14; refine (HMk.out _).mono ?_; rintro o w2 ⟨rfl, hb2⟩; obtain ⟨⟨k0, k1, k2⟩, hz1, hbw⟩ := one_dec hb2; have g0 := (hb2.frozen (p := ⟨w.heap.size, 0, none⟩) (by simp)).trans (show _ = false by simp); have g1 := (hb2.frozen (p := ⟨w.heap.size, 1, none⟩) (by simp)).trans (show _ = false by simp); have g2 := (hb2.frozen (p := ⟨w.heap.size, 2, none⟩) (by simp)).trans (show _ = false by simp); have HB1 := Lib.hid hbw; clear hb2 hbw; simp only [DecVal, decV, decE])
                    refine bodyPost_ret (v := .tuple #[.agg #[.bool false, .string ⟨#[]⟩, .int .i64 0], .string s, .int .i64 40]) (by simp [results, Tryd.results18, go_sem, k0, k1, k2, hz1]) rfl ?_
                    exact par_no HP.out ((((HB1.out.setCell (p := ⟨w.heap.size, 0, none⟩) (Nat.le_refl _) _).setCell (p := ⟨w.heap.size, 1, none⟩) (Nat.le_refl _) _).setCell (p := ⟨w.heap.size, 2, none⟩) (Nat.le_refl _) _).alloc (by simp; omega) _)
                  · go_wp2_with (go_at_call 14; refine (HMk.out _).mono ?_; rintro o w2 ⟨rfl, hb2⟩; obtain ⟨⟨k0, k1, k2⟩, hz1, hbw⟩ := one_dec hb2; have g0 := (hb2.frozen (p := ⟨w.heap.size, 0, none⟩) (by simp)).trans (show _ = false by simp); have g1 := (hb2.frozen (p := ⟨w.heap.size, 1, none⟩) (by simp)).trans (show _ = false by simp); have g2 := (hb2.frozen (p := ⟨w.heap.size, 2, none⟩) (by simp)).trans (show _ = false by simp); have HB1 := Lib.hid hbw; clear hb2 hbw; simp only [DecVal, decV, decE])
                    refine bodyPost_ret (v := .tuple #[.agg #[.bool n2, .string (decB a2), .int .i64 e2], .string (R2.extract c R2.size), .int .i64 0]) (by simp [results, Tryd.results18, go_sem, k0, k1, k2, hz1]) rfl ?_
                    refine ⟨?_, ((((HB1.out.setCell (p := ⟨w.heap.size, 0, none⟩) (Nat.le_refl _) _).setCell (p := ⟨w.heap.size, 1, none⟩) (Nat.le_refl _) _).setCell (p := ⟨w.heap.size, 2, none⟩) (Nat.le_refl _) _).alloc (by simp; omega) _)⟩
                    rw [HP.out]
                    simp only [withR, ParRes, decV]
                    congr 3
                    rw [show R2.extract c R2.size = ⟨(R2.data.toList.drop c).toArray⟩ from str_inj (by rw [Lib.extract_data, List.take_of_length_le (by rw [List.length_drop, ← Lib.size_eq]; exact Nat.le_refl _)])]
end Go.Proofs.YtifccjchpciicaaDoor
