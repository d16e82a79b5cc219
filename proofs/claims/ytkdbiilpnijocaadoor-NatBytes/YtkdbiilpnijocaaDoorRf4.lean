/- The walks of the document's own comparison and difference. -/
import Derived.Test.YtkdbiilpnijocaaDoorRf3
namespace Go.Proofs.YtkdbiilpnijocaaDoor
open Go.RowKit
open Go.Lib (decDigits)

theorem dv_app (p q : List UInt8) : dv (p ++ q) = dv p * 10 ^ q.length + dv q := by
  induction hn : q.length generalizing q with
  | zero => rw [List.eq_nil_of_length_eq_zero hn]; simp [dv]
  | succ k ih =>
    obtain ⟨m, d, rfl⟩ : ∃ m c, q = m ++ [c] := ⟨q.dropLast, q.getLast (by intro e; subst e; simp at hn), (List.dropLast_concat_getLast _).symm⟩
    rw [List.length_append, List.length_singleton] at hn
    rw [← List.append_assoc, dv_snoc, dv_snoc, ih m (by omega), Nat.pow_succ, Nat.add_mul, ← Nat.mul_assoc]
    omega

theorem short_lt {l m : List UInt8} (hl : isNat l = true) (hm : isNat m = true) (h : l.length < m.length) : dv l < dv m := by
  have h1 := dv_lt l (isNat_parts hl).2.2.2
  obtain ⟨m1, _, m3, m4⟩ := isNat_parts hm
  have l1 : 1 ≤ l.length := by
    cases l with
    | nil => exact absurd rfl (isNat_parts hl).1
    | cons => simp
  cases m with
  | nil => exact absurd rfl m1
  | cons c r =>
    have hc : 49 ≤ c.toNat := by
      have h5 := (isD_iff c).1 ((List.all_eq_true.1 m4) c (by simp))
      rcases m3 with m3 | m3
      · have : c.toNat ≠ 48 := by
          intro e
          apply m3
          have : c = 48 := UInt8.toNat.inj e
          rw [this]; rfl
        omega
      · rw [m3, List.length_singleton] at h; omega
    have h2 := dv_ge c r hc
    rw [List.length_cons] at h
    have h3 : 10 ^ l.length ≤ 10 ^ r.length := Nat.pow_le_pow_right (by omega) (by omega)
    omega

theorem place_lt {a b : ByteArray} {k : Nat} (hlen : a.size = b.size) (hk : k < a.size) (ha : a.data.toList.all isD = true) (heq : ∀ t, t < k → byteAt a t = byteAt b t) (hlt : (byteAt a k).toNat < (byteAt b k).toNat) : dv a.data.toList < dv b.data.toList := by
  have la := Lib.size_eq a
  have lb := Lib.size_eq b
  have hka : k < a.data.toList.length := by omega
  have hkb : k < b.data.toList.length := by omega
  have ht : a.data.toList.take k = b.data.toList.take k := by
    apply List.ext_getElem
    · simp only [List.length_take]; omega
    · intro t h1 h2
      rw [List.length_take] at h1 h2
      have := heq t (by omega)
      rw [byteAt_list, byteAt_list, List.getElem?_eq_getElem (by omega), List.getElem?_eq_getElem (by omega)] at this
      simpa using this
  have ea : a.data.toList = a.data.toList.take k ++ byteAt a k :: a.data.toList.drop (k + 1) := by
    rw [byteAt_list, List.getElem?_eq_getElem hka, Option.getD_some, ← List.drop_eq_getElem_cons hka, List.take_append_drop]
  have eb : b.data.toList = b.data.toList.take k ++ byteAt b k :: b.data.toList.drop (k + 1) := by
    rw [byteAt_list, List.getElem?_eq_getElem hkb, Option.getD_some, ← List.drop_eq_getElem_cons hkb, List.take_append_drop]
  have ra : dv (a.data.toList.drop (k + 1)) < 10 ^ (a.data.toList.drop (k + 1)).length := dv_lt _ (by rw [List.all_eq_true] at ha ⊢; exact fun x hx => ha x (List.mem_of_mem_drop hx))
  have da : 48 ≤ (byteAt a k).toNat := by
    have hm : byteAt a k ∈ a.data.toList := by
      rw [byteAt_list, List.getElem?_eq_getElem hka, Option.getD_some]
      exact List.getElem_mem hka
    have := (List.all_eq_true.1 ha) (byteAt a k) hm
    exact ((isD_iff _).1 this).1
  have hll : (a.data.toList.drop (k + 1)).length = (b.data.toList.drop (k + 1)).length := by rw [List.length_drop, List.length_drop]; omega
  rw [ea, eb, dv_app, dv_app, dv_cons, dv_cons, List.length_cons, List.length_cons, ht, ← hll]
  have h1 : ((byteAt a k).toNat - 48 + 1) * 10 ^ (a.data.toList.drop (k + 1)).length ≤ ((byteAt b k).toNat - 48) * 10 ^ (a.data.toList.drop (k + 1)).length := Nat.mul_le_mul_right _ (by omega)
  rw [Nat.add_mul] at h1
  omega

theorem all_eq {a b : ByteArray} (hlen : a.size = b.size) (heq : ∀ t, t < a.size → byteAt a t = byteAt b t) : a = b := by
  have la := Lib.size_eq a
  have lb := Lib.size_eq b
  refine str_inj (List.ext_getElem (by omega) fun t h1 h2 => ?_)
  have := heq t (by omega)
  rw [byteAt_list, byteAt_list, List.getElem?_eq_getElem h1, List.getElem?_eq_getElem h2] at this
  simpa using this

set_option maxRecDepth 100000 in
set_option maxHeartbeats 2000000 in
theorem rCompare_in (a b : ByteArray) (w : World) (ha : isNat a.data.toList = true) (hb : isNat b.data.toList = true) :
    Calls Tryd.prog 37 #[.string a, .string b] w fun e w' => e = .returned (.int .i64 (cmpI (dv a.data.toList) (dv b.data.toList))) ∧ Below w.heap.size w w' := by
  obtain ⟨da, la⟩ := nat_digs ha
  obtain ⟨db, lb⟩ := nat_digs hb
  have sa := Lib.size_eq a
  have sb := Lib.size_eq b
  rcases Nat.lt_trichotomy a.size b.size with h | h | h
  · have HC := Lib.hid (cmpI_lt (show (dv a.data.toList : Int) < (dv b.data.toList : Int) by have := short_lt ha hb (by omega); omega))
    clear sa sb da db
    go_enter Tryd.func37, Tryd.ntmps37
    go_wp2
    go_ret
    exact ⟨by rw [HC.out]; rfl, Below.refl _ _⟩
  · have HDA := Lib.hid da
    have HDB := Lib.hid db
    have hmx : Tryd.prog.follows .mixedOrders = true := by kernel_rfl
    clear sa sb da db ha hb
    go_enter Tryd.func37, Tryd.ntmps37
    go_wp2
    go_loopw [5] (fun i wr => ∃ k : Nat, i = .int .i64 k ∧ k ≤ a.size ∧ (∀ t, t < k → byteAt a t = byteAt b t) ∧ Below w.heap.size w wr) (fun i _ => a.size - (intOf i).toNat)
    case atStart => exact ⟨0, rfl, Nat.zero_le _, fun t ht => by omega, Below.refl _ _⟩
    case round =>
      obtain ⟨k, rfl, hk, he, hnx⟩ := hrel
      have HE := Lib.hid he
      have HN := Lib.hid hnx
      clear he hnx
      by_cases hlt : k < a.size
      · have hlb : k < b.size := by omega
        have hba : (a[k]'hlt).toNat = (byteAt a k).toNat := by rw [byteAt_eq a k hlt]
        have hbb : (b[k]'hlb).toNat = (byteAt b k).toNat := by rw [byteAt_eq b k hlb]
        rcases Nat.lt_trichotomy (byteAt a k).toNat (byteAt b k).toNat with h1 | h1 | h1
        · have HC := Lib.hid (cmpI_lt (show (dv a.data.toList : Int) < (dv b.data.toList : Int) by have := place_lt h hlt HDA.out.2 HE.out h1; omega))
          go_wp2_with fail
          go_region_o
          all_goals go_wp2
          all_goals go_ret
          all_goals exact ⟨by rw [HC.out]; rfl, HN.out.drew⟩
        · have h2 : byteAt a k = byteAt b k := UInt8.toNat.inj h1
          have h3 : ¬ (byteAt a k).toNat < (byteAt b k).toNat := by omega
          have h4 : ¬ (byteAt b k).toNat < (byteAt a k).toNat := by omega
          have H2 := Lib.hid h2
          clear h2 h1
          go_wp2_with fail
          go_region_o
          all_goals go_wp2_with fail
          all_goals go_region_o
          all_goals go_wp2
          all_goals go_roundw
          case rel =>
            refine ⟨k + 1, by go_num, by omega, fun t ht => ?_, HN.out.drew.drew⟩
            by_cases e : t = k
            · subst e; exact H2.out
            · exact HE.out t (by omega)
          case measure => simp [intOf]; omega
        · have h3 : ¬ (byteAt a k).toNat < (byteAt b k).toNat := by omega
          have HC := Lib.hid (cmpI_gt (show (dv b.data.toList : Int) < (dv a.data.toList : Int) by have := place_lt h.symm hlb HDB.out.2 (fun t ht => (HE.out t ht).symm) h1; omega))
          go_wp2_with fail
          go_region_o
          all_goals go_wp2_with fail
          all_goals go_region_o
          all_goals go_wp2
          all_goals go_ret
          all_goals exact ⟨by rw [HC.out]; rfl, HN.out.drew.drew⟩
      · have HC := Lib.hid (show cmpI (dv a.data.toList) (dv b.data.toList) = 0 by rw [all_eq h (fun t ht => HE.out t (by omega)), cmpI_eq])
        have hlb : ¬ k < b.size := by omega
        go_wp2
        go_ret
        exact ⟨by rw [HC.out]; rfl, HN.out⟩
  · have HC := Lib.hid (cmpI_gt (show (dv b.data.toList : Int) < (dv a.data.toList : Int) by have := short_lt hb ha (by omega); omega))
    have h2 : ¬ a.size < b.size := by omega
    clear sa sb da db
    go_enter Tryd.func37, Tryd.ntmps37
    go_wp2
    go_ret
    exact ⟨by rw [HC.out]; rfl, Below.refl _ _⟩

theorem rCompare_is (a b : ByteArray) (x : Int) (w : World) (ha : isNat a.data.toList = true) (hb : isNat b.data.toList = true) (hx : cmpI (dv a.data.toList) (dv b.data.toList) = x) :
    Calls Tryd.prog 37 #[.string a, .string b] w fun e w' => e = .returned (.int .i64 x) ∧ Below w.heap.size w w' := hx ▸ rCompare_in a b w ha hb

set_option maxRecDepth 100000 in
set_option maxHeartbeats 1000000 in
theorem rCompare_yes (a b : ByteArray) (w : World) (ha : isNat a.data.toList = true) (hb : isNat b.data.toList = true) :
    Calls Tryd.prog 14 #[.string a, .string b] w fun e w' => e = .returned (.tuple #[.int .i64 (cmpI (dv a.data.toList) (dv b.data.toList)), .int .i64 0]) ∧ Below w.heap.size w w' := by
  have HA := Lib.hid ha
  have HB := Lib.hid hb
  clear ha hb
  go_enter Tryd.func14, Tryd.ntmps14
  go_wp2_with (first
    | (go_at_call 20; refine (rRight_is _ true _ (by first | exact HA.out | exact HB.out)).mono ?_; rintro e w1 ⟨rfl, rfl⟩)
    | (go_at_call 37; refine (rCompare_in a b _ HA.out HB.out).mono ?_; rintro e w2 ⟨rfl, hb2⟩))
  go_ret2
  exact ⟨rfl, hb2⟩

set_option maxRecDepth 100000 in
set_option maxHeartbeats 1000000 in
theorem rCompare_no (a b : ByteArray) (w : World) (h : (isNat a.data.toList && isNat b.data.toList) = false) : Calls Tryd.prog 14 #[.string a, .string b] w fun e w' => e = .returned (.tuple #[.int .i64 0, .int .i64 10]) ∧ w' = w := by
  cases ha : isNat a.data.toList with
  | false =>
    have HA := Lib.hid ha
    clear ha h
    go_enter Tryd.func14, Tryd.ntmps14
    go_wp2_with (go_at_call 20; refine (rRight_is _ false _ HA.out).mono ?_; rintro e w1 ⟨rfl, rfl⟩)
    go_ret2
    exact ⟨rfl, rfl⟩
  | true =>
    have HA := Lib.hid ha
    have HB := Lib.hid (show isNat b.data.toList = false by rw [ha, Bool.true_and] at h; exact h)
    clear ha h
    go_enter Tryd.func14, Tryd.ntmps14
    go_wp2_with fail
    refine (rRight_is _ true _ HA.out).mono ?_
    rintro e w1 ⟨rfl, rfl⟩
    go_wp2_with fail
    refine (rRight_is _ false _ HB.out).mono ?_
    rintro e w1 ⟨rfl, rfl⟩
    go_wp2
    go_ret2
    exact ⟨rfl, rfl⟩

set_option maxRecDepth 100000 in
set_option maxHeartbeats 1000000 in
theorem rSub_no (a b : ByteArray) (w : World) (h : (isNat a.data.toList && isNat b.data.toList) = false) : Calls Tryd.prog 18 #[.string a, .string b] w fun e w' => e = .returned (.tuple #[.string noB, .int .i64 10]) ∧ w' = w := by
  cases ha : isNat a.data.toList with
  | false =>
    have HA := Lib.hid ha
    clear ha h
    go_enter Tryd.func18, Tryd.ntmps18
    go_wp2_with (go_at_call 20; refine (rRight_is _ false _ HA.out).mono ?_; rintro e w1 ⟨rfl, rfl⟩)
    go_ret2
    exact ⟨rfl, rfl⟩
  | true =>
    have HA := Lib.hid ha
    have HB := Lib.hid (show isNat b.data.toList = false by rw [ha, Bool.true_and] at h; exact h)
    clear ha h
    go_enter Tryd.func18, Tryd.ntmps18
    go_wp2_with fail
    refine (rRight_is _ true _ HA.out).mono ?_
    rintro e w1 ⟨rfl, rfl⟩
    go_wp2_with fail
    refine (rRight_is _ false _ HB.out).mono ?_
    rintro e w1 ⟨rfl, rfl⟩
    go_wp2
    go_ret2
    exact ⟨rfl, rfl⟩

set_option maxRecDepth 100000 in
set_option maxHeartbeats 1000000 in
theorem rSub_lt (a b : ByteArray) (w : World) (ha : isNat a.data.toList = true) (hb : isNat b.data.toList = true) (hlt : dv a.data.toList < dv b.data.toList) : Calls Tryd.prog 18 #[.string a, .string b] w fun e w' => e = .returned (.tuple #[.string noB, .int .i64 10]) ∧ Below w.heap.size w w' := by
  have HA := Lib.hid ha
  have HB := Lib.hid hb
  have HC := Lib.hid (cmpI_lt (show (dv a.data.toList : Int) < (dv b.data.toList : Int) by omega))
  clear ha hb hlt
  go_enter Tryd.func18, Tryd.ntmps18
  go_wp2_with (first
    | (go_at_call 20; refine (rRight_is _ true _ (by first | exact HA.out | exact HB.out)).mono ?_; rintro e w1 ⟨rfl, rfl⟩)
    | (go_at_call 37; refine (rCompare_is a b (-1) _ HA.out HB.out HC.out).mono ?_; rintro e w2 ⟨rfl, hb2⟩))
  go_ret2
  exact ⟨rfl, hb2⟩

/-- The difference's digits, k of them. -/
structure DifI (a b o : ByteArray) (k c : Nat) : Prop where
  len : o.size = k
  all : o.data.toList.all isD = true
  c1 : c ≤ 1
  le : k ≤ a.size
  eq : low a k + c * 10 ^ k = dv o.data.toList + low b k

theorem DifI.step {a b o : ByteArray} {k c v c' : Nat} (h : DifI a b o k c) (hk : k < a.size) (hc' : c' ≤ 1) (hv : v < 10) (e : dgAt a k + c' * 10 = v + dgAt b k + c) : DifI a b (oneB v ++ o) (k + 1) c' := by
  have h4 := h.eq
  refine ⟨by rw [cons_size, h.len], cons_all hv h.all, hc', hk, ?_⟩
  rw [cons_dv hv, h.len, low_succ, low_succ, Nat.pow_succ]
  generalize 10 ^ k = E at *
  have : dgAt a k * E + c' * (E * 10) = v * E + dgAt b k * E + c * E := by
    rw [← Nat.add_mul, ← Nat.add_mul, ← e, Nat.add_mul, Nat.mul_comm E 10, Nat.mul_assoc]
  omega

set_option maxRecDepth 100000 in
set_option maxHeartbeats 2000000 in
theorem rSub_yes (a b : ByteArray) (w : World) (ha : isNat a.data.toList = true) (hb : isNat b.data.toList = true) (hle : dv b.data.toList ≤ dv a.data.toList) : Calls Tryd.prog 18 #[.string a, .string b] w fun e w' => e = .returned (.tuple #[.string (decB (dv a.data.toList - dv b.data.toList)), .int .i64 0]) ∧ Below w.heap.size w w' := by
  obtain ⟨da, la⟩ := nat_digs ha
  obtain ⟨db, lb⟩ := nat_digs hb
  have HA := Lib.hid ha
  have HB := Lib.hid hb
  have HDA := Lib.hid da
  have HDB := Lib.hid db
  have HLE := Lib.hid hle
  have hx : ∃ x : Int, cmpI (dv a.data.toList) (dv b.data.toList) = x ∧ 0 ≤ x := ⟨_, rfl, by rw [cmpI]; split; omega; split <;> omega⟩
  obtain ⟨x, hx, hx0⟩ := hx
  have HX := Lib.hid hx
  have hbs : b.size ≤ a.size := by
    rcases Nat.lt_or_ge a.size b.size with h | h
    · have := short_lt ha hb (by rw [← Lib.size_eq, ← Lib.size_eq]; exact h)
      omega
    · exact h
  clear ha hb da db hle hx
  go_enter Tryd.func18, Tryd.ntmps18
  go_wp2_with (first
    | (go_at_call 20; refine (rRight_is _ true _ (by first | exact HA.out | exact HB.out)).mono ?_; rintro e w1 ⟨rfl, rfl⟩)
    | (go_at_call 37; refine (rCompare_is a b x _ HA.out HB.out HX.out).mono ?_; rintro e w2 ⟨rfl, hb2⟩))
  go_loopw [6, 7, 8] (fun v c i wr => ∃ (o : ByteArray) (k q : Nat), v = .string o ∧ c = .int .i64 q ∧ i = .int .i64 k ∧ DifI a b o k q ∧ Below w1.heap.size w1 wr) (fun _ _ i _ => a.size - (intOf i).toNat)
  case atStart => exact ⟨⟨#[]⟩, 0, 0, rfl, rfl, rfl, ⟨rfl, rfl, by omega, Nat.zero_le _, by rw [low_zero, low_zero]; rfl⟩, hb2⟩
  case round =>
    obtain ⟨o, k, q, rfl, rfl, rfl, hI, hnx⟩ := hrel
    have HI := Lib.hid hI
    have HN := Lib.hid hnx
    have hq := hI.c1
    have hkl := hI.le
    have hos := hI.len
    have hda := dgAt_lt HDA.out.2 k
    have hdb := dgAt_lt HDB.out.2 k
    clear hI hnx
    by_cases hgo : k < a.size
    · by_cases hn : dgAt a k < dgAt b k + q
      · have hcv := fun W => conv_int W (dgAt a k + 10 - dgAt b k - q) ((dgAt a k : Int) - (dgAt b k : Int) - (q : Int) + 10) (by omega) (by omega)
        have hone : (oneB (dgAt a k + 10 - dgAt b k - q)).size = 1 := rfl
        go_wp2_with (go_at_call 43; refine (rDigit_calls _ k _ (by first | exact HDA.out.2 | exact HDB.out.2) (by omega) (by omega)).mono ?_; rintro e w2 ⟨rfl, rfl⟩)
        go_roundw
        case rel => exact ⟨_, k + 1, 1, rfl, rfl, by go_num, HI.out.step hgo (by omega) (by omega) (by omega), HN.out.alloc HN.out.size _⟩
        case measure => simp [intOf]; omega
      · have hcv := fun W => conv_int W (dgAt a k - dgAt b k - q) ((dgAt a k : Int) - (dgAt b k : Int) - (q : Int)) (by omega) (by omega)
        have hone : (oneB (dgAt a k - dgAt b k - q)).size = 1 := rfl
        go_wp2_with (go_at_call 43; refine (rDigit_calls _ k _ (by first | exact HDA.out.2 | exact HDB.out.2) (by omega) (by omega)).mono ?_; rintro e w2 ⟨rfl, rfl⟩)
        go_roundw
        case rel => exact ⟨_, k + 1, 0, rfl, rfl, by go_num, HI.out.step hgo (by omega) (by omega) (by omega), HN.out.alloc HN.out.size _⟩
        case measure => simp [intOf]; omega
    · have HD : Hid (Digs o ∧ dv o.data.toList = dv a.data.toList - dv b.data.toList) := by
        have h4 := HI.out.eq
        rw [low_all a (by omega), low_all b (by omega)] at h4
        have h5 := dv_lt o.data.toList HI.out.all
        rw [← Lib.size_eq, HI.out.len] at h5
        have h6 := HLE.out
        refine Lib.hid ⟨⟨fun e => ?_, HI.out.all⟩, ?_⟩
        · have h7 := Lib.size_eq o
          have h8 := Lib.size_eq a
          rw [e, List.length_nil] at h7
          cases e2 : a.data.toList with
          | nil => exact HDA.out.1 e2
          | cons c l => rw [e2, List.length_cons] at h8; omega
        · rcases Nat.le_one_iff_eq_zero_or_eq_one.1 HI.out.c1 with h0 | h0 <;> subst h0
          · omega
          · omega
      go_wp2_with (go_at_call 44; refine (rTrim_calls o _ HD.out.1 (by omega)).mono ?_; rintro e w3 ⟨rfl, rfl⟩)
      go_ret2
      exact ⟨by rw [HD.out.2]; rfl, HN.out⟩
end Go.Proofs.YtkdbiilpnijocaaDoor
