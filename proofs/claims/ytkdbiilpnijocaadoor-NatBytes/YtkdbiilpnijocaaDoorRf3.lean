/- The walk of the document's own sum. -/
import Derived.Test.YtkdbiilpnijocaaDoorRf2
namespace Go.Proofs.YtkdbiilpnijocaaDoor
open Go.RowKit
open Go.Lib (decDigits)

theorem dv_cons (c : UInt8) (l : List UInt8) : dv (c :: l) = (c.toNat - 48) * 10 ^ l.length + dv l := by
  induction hn : l.length generalizing l with
  | zero => rw [List.eq_nil_of_length_eq_zero hn]; simp [dv]
  | succ k ih =>
    obtain ⟨m, d, rfl⟩ : ∃ m c, l = m ++ [c] := ⟨l.dropLast, l.getLast (by intro e; subst e; simp at hn), (List.dropLast_concat_getLast _).symm⟩
    rw [List.length_append, List.length_singleton] at hn
    rw [← List.cons_append, dv_snoc, dv_snoc, ih m (by omega), Nat.pow_succ, Nat.add_mul, ← Nat.mul_assoc]
    omega

/-- The number of the last k digits. -/
def low (s : ByteArray) (k : Nat) : Nat := dv (s.data.toList.drop (s.size - k))
theorem low_zero (s : ByteArray) : low s 0 = 0 := by
  rw [low, Nat.sub_zero, List.drop_of_length_le (by rw [← Lib.size_eq]; exact Nat.le_refl _)]; rfl
theorem low_all (s : ByteArray) {k : Nat} (h : s.size ≤ k) : low s k = dv s.data.toList := by
  rw [low, Nat.sub_eq_zero_of_le h, List.drop_zero]
theorem low_succ (s : ByteArray) (k : Nat) : low s (k + 1) = low s k + dgAt s k * 10 ^ k := by
  by_cases h : k < s.size
  · have hl : s.size - (k + 1) < s.data.toList.length := by rw [← Lib.size_eq]; omega
    rw [dgAt, if_pos h, low, List.drop_eq_getElem_cons hl, dv_cons, show s.size - (k + 1) + 1 = s.size - k from by omega, List.length_drop, ← Lib.size_eq, show s.size - (s.size - k) = k from by omega, byteAt_list, show s.size - 1 - k = s.size - (k + 1) from by omega, List.getElem?_eq_getElem hl, low]
    simp only [Option.getD_some]
    omega
  · rw [dgAt, if_neg h, low_all s (by omega), low_all s (by omega)]; omega

theorem dgAt_lt {s : ByteArray} (hs : s.data.toList.all isD = true) (k : Nat) : dgAt s k < 10 := by
  rw [dgAt]
  split
  · rename_i h
    have hl : s.size - 1 - k < s.data.toList.length := by rw [← Lib.size_eq]; omega
    rw [byteAt_list, List.getElem?_eq_getElem hl]
    have := (isD_iff _).1 ((List.all_eq_true.1 hs) _ (List.getElem_mem hl))
    simp only [Option.getD_some]
    omega
  · omega

/-- The sum's digits, k of them. -/
structure SumI (a b o : ByteArray) (k c : Nat) : Prop where
  len : o.size = k
  all : o.data.toList.all isD = true
  c1 : c ≤ 1
  le : k ≤ max a.size b.size ∨ (k = max a.size b.size + 1 ∧ c = 0)
  eq : dv o.data.toList + c * 10 ^ k = low a k + low b k

def oneB (n : Nat) : ByteArray := ⟨#[UInt8.ofNat (48 + n)]⟩
theorem cons_data (n : Nat) (o : ByteArray) : (oneB n ++ o).data.toList = UInt8.ofNat (48 + n) :: o.data.toList := by
  rw [ByteArray.data_append]; simp [oneB]

theorem cons_all {n : Nat} {o : ByteArray} (hn : n < 10) (h : o.data.toList.all isD = true) : (oneB n ++ o).data.toList.all isD = true := by
  rw [cons_data, List.all_cons, h, Bool.and_true, isD_iff, dig_nat hn]; omega
theorem cons_dv {n : Nat} {o : ByteArray} (hn : n < 10) : dv (oneB n ++ o).data.toList = n * 10 ^ o.size + dv o.data.toList := by
  rw [cons_data, dv_cons, dig_nat hn, ← Lib.size_eq, Nat.add_sub_cancel_left]
theorem cons_size (n : Nat) (o : ByteArray) : (oneB n ++ o).size = o.size + 1 := by
  rw [Lib.size_eq, cons_data, List.length_cons, ← Lib.size_eq]

theorem SumI.step {a b o : ByteArray} {k c : Nat} (h : SumI a b o k c) (ha : a.data.toList.all isD = true) (hb : b.data.toList.all isD = true) (hk : k < a.size ∨ k < b.size ∨ 0 < c) :
    SumI a b (oneB ((dgAt a k + dgAt b k + c) % 10) ++ o) (k + 1) ((dgAt a k + dgAt b k + c) / 10) := by
  have h1 := dgAt_lt ha k
  have h2 := dgAt_lt hb k
  have h3 := h.c1
  have h4 := h.eq
  have h5 := h.le
  refine ⟨by rw [cons_size, h.len], cons_all (by omega) h.all, by omega, ?_, ?_⟩
  · by_cases hm : k < max a.size b.size
    · left; omega
    · right
      rw [dgAt, if_neg (by omega), dgAt, if_neg (by omega)]
      omega
  · rw [cons_dv (by omega), h.len, low_succ, low_succ, Nat.pow_succ]
    generalize 10 ^ k = E at *
    have : (dgAt a k + dgAt b k + c) % 10 * E + (dgAt a k + dgAt b k + c) / 10 * (E * 10) = dgAt a k * E + dgAt b k * E + c * E := by
      rw [← Nat.add_mul, ← Nat.add_mul]
      generalize dgAt a k + dgAt b k + c = t
      rw [Nat.mul_comm E 10, ← Nat.mul_assoc, ← Nat.add_mul, Nat.mul_comm (t / 10), Nat.mod_add_div]
    generalize (dgAt a k + dgAt b k + c) % 10 * E = x1 at *
    generalize (dgAt a k + dgAt b k + c) / 10 * (E * 10) = x2 at *
    generalize dgAt a k * E = x3 at *
    generalize dgAt b k * E = x4 at *
    generalize c * E = x5 at *
    omega

theorem conv_one (W : World) (n : Nat) (hn : n < 10) : (convert 56 9 (.slice (some ⟨W.heap.size, 0, none⟩) 1 1)).run Tryd.prog (W.alloc (.cells #[.int .u8 ((48 : Int) + (n : Int))] 5)) = .ok (.string (oneB n)) (W.alloc (.cells #[.int .u8 ((48 : Int) + (n : Int))] 5)) := by
  refine run_convert_bytes_back _ 56 9 5 ⟨W.heap.size, 0, none⟩ 1 [UInt8.ofNat (48 + n)] Tryd.underlying56 Tryd.underlying5 Tryd.underlying9 (fun j hj => ?_)
  have : j = 0 := by simp at hj; omega
  subst this
  rw [Addr.add_lit]
  simp only [List.getElem_cons_zero, dig_nat hn]
  have := cell_one_new W (.int .u8 ((48 : Int) + (n : Int))) 5 0 _ rfl
  rw [Addr.add_lit] at this
  rw [this, show ((48 + n : Nat) : Int) = (48 : Int) + (n : Int) from by omega]

theorem conv_int (W : World) (n : Nat) (x : Int) (hx : x = (n : Int)) (hn : n < 10) : (convert 56 9 (.slice (some ⟨W.heap.size, 0, none⟩) 1 1)).run Tryd.prog (W.alloc (.cells #[.int .u8 ((48 : Int) + x)] 5)) = .ok (.string (oneB n)) (W.alloc (.cells #[.int .u8 ((48 : Int) + x)] 5)) := by
  subst hx
  exact conv_one W n hn

set_option maxRecDepth 100000 in
set_option maxHeartbeats 1000000 in
theorem rAdd_in (a b : ByteArray) (w : World) (ha : Digs a) (hb : Digs b) (hla : a.size ≤ 1000) (hlb : b.size ≤ 1000) :
    Calls Tryd.prog 41 #[.string a, .string b] w fun e w' => ∃ o, e = .returned (.string o) ∧ Digs o ∧ dv o.data.toList = dv a.data.toList + dv b.data.toList ∧ o.size ≤ 1001 ∧ Below w.heap.size w w' := by
  have HA := Lib.hid ha
  have HB := Lib.hid hb
  clear ha hb
  go_enter Tryd.func41, Tryd.ntmps41
  go_wp2
  go_loopw [5, 6, 7] (fun v c i wr => ∃ (o : ByteArray) (k q : Nat), v = .string o ∧ c = .int .i64 q ∧ i = .int .i64 k ∧ SumI a b o k q ∧ Below w.heap.size w wr) (fun _ _ i _ => max a.size b.size + 2 - (intOf i).toNat)
  case atStart => exact ⟨⟨#[]⟩, 0, 0, rfl, rfl, rfl, ⟨rfl, rfl, by omega, .inl (by omega), by rw [low_zero, low_zero]; rfl⟩, Below.refl _ _⟩
  case round =>
    obtain ⟨o, k, q, rfl, rfl, rfl, hI, hnx⟩ := hrel
    have HI := Lib.hid hI
    have HN := Lib.hid hnx
    have hq := hI.c1
    have hkl := hI.le
    have hos := hI.len
    have hda := dgAt_lt HA.out.2 k
    have hdb := dgAt_lt HB.out.2 k
    clear hI hnx
    by_cases hgo : k < a.size ∨ k < b.size ∨ 0 < q
    · have hcase : k < a.size ∨ (¬ k < a.size ∧ k < b.size) ∨ (¬ k < a.size ∧ ¬ k < b.size ∧ 0 < q) := by omega
      have HG := Lib.hid hgo
      clear hgo
      have hcv := fun W => conv_int W ((dgAt a k + dgAt b k + q) % 10) (((dgAt a k : Int) + (dgAt b k : Int) + (q : Int)) % 10) (by omega) (by omega)
      have hone : (oneB ((dgAt a k + dgAt b k + q) % 10)).size = 1 := rfl
      rcases hcase with h1 | ⟨h1, h2⟩ | ⟨h1, h2, h3⟩
      · go_wp2_with (go_at_call 43; refine (rDigit_calls _ k _ (by first | exact HA.out.2 | exact HB.out.2) (by omega) (by omega)).mono ?_; rintro e w2 ⟨rfl, rfl⟩)
        go_roundw
        case rel => exact ⟨_, k + 1, (dgAt a k + dgAt b k + q) / 10, rfl, by go_num, by go_num, HI.out.step HA.out.2 HB.out.2 HG.out, HN.out.alloc HN.out.size _⟩
        case measure => simp [intOf]; omega
      · go_wp2_with (go_at_call 43; refine (rDigit_calls _ k _ (by first | exact HA.out.2 | exact HB.out.2) (by omega) (by omega)).mono ?_; rintro e w2 ⟨rfl, rfl⟩)
        go_roundw
        case rel => exact ⟨_, k + 1, (dgAt a k + dgAt b k + q) / 10, rfl, by go_num, by go_num, HI.out.step HA.out.2 HB.out.2 HG.out, HN.out.alloc HN.out.size _⟩
        case measure => simp [intOf]; omega
      · go_wp2_with (go_at_call 43; refine (rDigit_calls _ k _ (by first | exact HA.out.2 | exact HB.out.2) (by omega) (by omega)).mono ?_; rintro e w2 ⟨rfl, rfl⟩)
        go_roundw
        case rel => exact ⟨_, k + 1, (dgAt a k + dgAt b k + q) / 10, rfl, by go_num, by go_num, HI.out.step HA.out.2 HB.out.2 HG.out, HN.out.alloc HN.out.size _⟩
        case measure => simp [intOf]; omega
    · have h1 : ¬ k < a.size := fun h => hgo (.inl h)
      have h2 : ¬ k < b.size := fun h => hgo (.inr (.inl h))
      have h3 : ¬ 0 < q := fun h => hgo (.inr (.inr h))
      clear hgo
      go_wp2
      go_ret
      refine ⟨o, rfl, ⟨?_, HI.out.all⟩, ?_, by omega, HN.out⟩
      · intro e
        have h4 := Lib.size_eq o
        have h5 := Lib.size_eq a
        rw [e, List.length_nil] at h4
        cases e2 : a.data.toList with
        | nil => exact HA.out.1 e2
        | cons c l => rw [e2, List.length_cons] at h5; omega
      · have h4 := HI.out.eq
        rw [low_all a (by omega), low_all b (by omega), show q = 0 from by omega, Nat.zero_mul, Nat.add_zero] at h4
        exact h4

theorem nat_digs {s : ByteArray} (h : isNat s.data.toList = true) : Digs s ∧ s.size ≤ 400 := by
  obtain ⟨h1, h2, _, h4⟩ := isNat_parts h
  exact ⟨⟨h1, h4⟩, by rw [Lib.size_eq]; exact h2⟩

theorem rRight_is (s : ByteArray) (v : Bool) (w : World) (h : isNat s.data.toList = v) : Calls Tryd.prog 20 #[.string s] w fun e w' => e = .returned (.bool v) ∧ w' = w := h ▸ rRight_calls s w

set_option maxRecDepth 100000 in
set_option maxHeartbeats 1000000 in
theorem rAdd_yes (a b : ByteArray) (w : World) (ha : isNat a.data.toList = true) (hb : isNat b.data.toList = true) : Calls Tryd.prog 16 #[.string a, .string b] w (TellPost (dv a.data.toList + dv b.data.toList) w) := by
  obtain ⟨da, la⟩ := nat_digs ha
  obtain ⟨db, lb⟩ := nat_digs hb
  have HA := Lib.hid ha
  have HB := Lib.hid hb
  have HDA := Lib.hid da
  have HDB := Lib.hid db
  clear ha hb da db
  go_enter Tryd.func16, Tryd.ntmps16
  go_wp2_with (first
    | (go_at_call 20; refine (rRight_is _ true _ (by first | exact HA.out | exact HB.out)).mono ?_; rintro e w1 ⟨rfl, rfl⟩)
    | (go_at_call 41; refine (rAdd_in a b _ HDA.out HDB.out (by omega) (by omega)).mono ?_; rintro e w2 ⟨o, rfl, hd, hv, hs, hb2⟩; have HD := Lib.hid hd; have HV := Lib.hid hv; clear hd hv)
    | (go_at_call 40; refine (rEnds_calls o _ HD.out (by omega)).mono ?_; rintro e w3 ⟨rfl, hb3⟩))
  go_ret2
  exact ⟨by rw [HV.out]; rfl, hb2.trans (hb3.mono hb2.size)⟩

set_option maxRecDepth 100000 in
set_option maxHeartbeats 1000000 in
theorem rAdd_no (a b : ByteArray) (w : World) (h : (isNat a.data.toList && isNat b.data.toList) = false) : Calls Tryd.prog 16 #[.string a, .string b] w fun e w' => e = .returned (.tuple #[.string noB, .int .i64 10]) ∧ w' = w := by
  cases ha : isNat a.data.toList with
  | false =>
    have HA := Lib.hid ha
    clear ha h
    go_enter Tryd.func16, Tryd.ntmps16
    go_wp2_with (go_at_call 20; refine (rRight_is _ false _ HA.out).mono ?_; rintro e w1 ⟨rfl, rfl⟩)
    go_ret2
    exact ⟨rfl, rfl⟩
  | true =>
    have HA := Lib.hid ha
    have HB := Lib.hid (show isNat b.data.toList = false by rw [ha, Bool.true_and] at h; exact h)
    clear ha h
    go_enter Tryd.func16, Tryd.ntmps16
    go_wp2_with fail
    refine (rRight_is _ true _ HA.out).mono ?_
    rintro e w1 ⟨rfl, rfl⟩
    go_wp2_with fail
    refine (rRight_is _ false _ HB.out).mono ?_
    rintro e w1 ⟨rfl, rfl⟩
    go_wp2
    go_ret2
    exact ⟨rfl, rfl⟩
end Go.Proofs.YtkdbiilpnijocaaDoor
