/- Words for the document's own walks. The walks of the document's own answers: Trim, digit, ends. The walk of the document's own sum. The walks of the document's own comparison and difference. The walks of the document's own Of and Div. Words for the walk of the document's own product (the walk itself is not written yet). -/
import Derived.Test.YtgcalhnfoakggaaGreatDoorMul
import Derived.Test.YtgcalhnfoakggaaGreatDoorMd

namespace Go.Proofs.YtgcalhnfoakggaaGreatDoor
open Go.RowKit
open Go.Lib (decDigits nDigits)
theorem dv_decB (n : Nat) : dv (decB n).data.toList = n := by rw [decB_data, dv_dec]
theorem isNat_decB {n : Nat} (h : n < lim) : isNat (decB n).data.toList = true := by rw [decB_data]; exact isNat_dec h
end Go.Proofs.YtgcalhnfoakggaaGreatDoor

namespace Go.Proofs.YtgcalhnfoakggaaGreatDoor
open Go.RowKit
open Go.Lib (decDigits nDigits nDigits_small lt_pow_nDigits decDigits_length)

/-- What digit tells of a row of digits: that at a place from the end on. -/
def dgAt (s : ByteArray) (k : Nat) : Nat := if k < s.size then (byteAt s (s.size - 1 - k)).toNat - 48 else 0

set_option maxRecDepth 100000 in
set_option maxHeartbeats 1000000 in
theorem rDigit_calls (s : ByteArray) (k : Nat) (w : World) (hs : s.data.toList.all isD = true) (hmax : s.size ≤ 100000) (hk : k ≤ 100000) : Calls Tryz.prog 91 #[.string s, .int .i64 (k : Int)] w fun e w' => e = .returned (.int .i64 (dgAt s k : Nat)) ∧ w' = w := by
  by_cases h : k < s.size
  · have hlt : s.size - 1 - k < s.size := by omega
    have hi : (s.size : Int) - 1 - (k : Int) = ((s.size - 1 - k : Nat) : Int) := by omega
    have hd : isD (byteAt s (s.size - 1 - k)) = true := by
      rw [byteAt_list]
      have hl : s.size - 1 - k < s.data.toList.length := by rw [← Lib.size_eq]; exact hlt
      rw [List.getElem?_eq_getElem hl]
      exact (List.all_eq_true.1 hs) _ (List.getElem_mem hl)
    have hr := (isD_iff _).1 hd
    have hbe : (s[s.size - 1 - k]'hlt).toNat = (byteAt s (s.size - 1 - k)).toNat := by rw [byteAt_eq s _ hlt]
    have HE : Hid (dgAt s k = (byteAt s (s.size - 1 - k)).toNat - 48) := Lib.hid (by rw [dgAt, if_pos h])
    clear hs hd
    go_enter Tryz.func91, Tryz.ntmps91
    go_wp2
    go_ret
    exact ⟨by rw [HE.out, show (((byteAt s (s.size - 1 - k)).toNat - 48 : Nat) : Int) = ((byteAt s (s.size - 1 - k)).toNat : Int) - 48 from by omega]; rfl, rfl⟩
  · have HE : Hid (dgAt s k = 0) := Lib.hid (by rw [dgAt, if_neg h])
    go_enter Tryz.func91, Tryz.ntmps91
    go_wp2
    go_ret
    exact ⟨by rw [HE.out]; rfl, rfl⟩

set_option maxRecDepth 100000 in
set_option maxHeartbeats 1000000 in
theorem rEnds_calls (s : ByteArray) (w : World) (hs : Digs s) (hmax : s.size ≤ 100000) : Calls Tryz.prog 70 #[.string s] w (TellPost (dv s.data.toList) w) := by
  have HS := Lib.hid hs
  clear hs
  have hsz : (decB (dv s.data.toList)).size = nDigits (dv s.data.toList) := by rw [Lib.size_eq, decB_data, decDigits_length]
  by_cases h : nDigits (dv s.data.toList) ≤ 400
  · have H1 := Lib.hid (outS_lt h)
    have H2 := Lib.hid (outE_lt h)
    go_enter Tryz.func70, Tryz.ntmps70
    go_wp2_with (go_at_call 51; refine (rTrim_calls s _ HS.out hmax).mono ?_; rintro e w1 ⟨rfl, rfl⟩)
    go_ret2
    exact ⟨by rw [H1.out, H2.out]; rfl, Below.refl _ _⟩
  · have H1 := Lib.hid (outS_ge h)
    have H2 := Lib.hid (outE_ge h)
    go_enter Tryz.func70, Tryz.ntmps70
    go_wp2_with (go_at_call 51; refine (rTrim_calls s _ HS.out hmax).mono ?_; rintro e w1 ⟨rfl, rfl⟩)
    go_ret2
    exact ⟨by rw [H1.out, H2.out]; rfl, Below.refl _ _⟩
end Go.Proofs.YtgcalhnfoakggaaGreatDoor

namespace Go.Proofs.YtgcalhnfoakggaaGreatDoor
open Go.RowKit
open Go.Lib (decDigits)

/-- The number of the last k digits. -/
def low (s : ByteArray) (k : Nat) : Nat := dv (s.data.toList.drop (s.size - k))
theorem low_zero (s : ByteArray) : low s 0 = 0 := by
  rw [low, Nat.sub_zero, List.drop_of_length_le (by rw [← Lib.size_eq]; exact Nat.le_refl _)]; rfl
theorem low_all (s : ByteArray) {k : Nat} (h : s.size ≤ k) : low s k = dv s.data.toList := by
  rw [low, Nat.sub_eq_zero_of_le h, List.drop_zero]
theorem low_succ (s : ByteArray) (k : Nat) : low s (k + 1) = low s k + dgAt s k * 10 ^ k := by
  by_cases h : k < s.size
  · have hl : s.size - (k + 1) < s.data.toList.length := by rw [← Lib.size_eq]; omega
    rw [dgAt, if_pos h, low, List.drop_eq_getElem_cons hl, dv_cons, show s.size - (k + 1) + 1 = s.size - k from by omega, List.length_drop, ← Lib.size_eq, show s.size - (s.size - k) = k from by omega, byteAt_list, show s.size - 1 - k = s.size - (k + 1) from by omega, List.getElem?_eq_getElem hl, low]
    simp only [Option.getD_some]
    omega
  · rw [dgAt, if_neg h, low_all s (by omega), low_all s (by omega)]; omega

theorem dgAt_lt {s : ByteArray} (hs : s.data.toList.all isD = true) (k : Nat) : dgAt s k < 10 := by
  rw [dgAt]
  split
  · rename_i h
    have hl : s.size - 1 - k < s.data.toList.length := by rw [← Lib.size_eq]; omega
    rw [byteAt_list, List.getElem?_eq_getElem hl]
    have := (isD_iff _).1 ((List.all_eq_true.1 hs) _ (List.getElem_mem hl))
    simp only [Option.getD_some]
    omega
  · omega

/-- The sum's digits, k of them. -/
structure SumI (a b o : ByteArray) (k c : Nat) : Prop where
  len : o.size = k
  all : o.data.toList.all isD = true
  c1 : c ≤ 1
  le : k ≤ max a.size b.size ∨ (k = max a.size b.size + 1 ∧ c = 0)
  eq : dv o.data.toList + c * 10 ^ k = low a k + low b k

theorem cons_data (n : Nat) (o : ByteArray) : (oneB n ++ o).data.toList = UInt8.ofNat (48 + n) :: o.data.toList := by
  rw [ByteArray.data_append]; simp [oneB]

theorem cons_all {n : Nat} {o : ByteArray} (hn : n < 10) (h : o.data.toList.all isD = true) : (oneB n ++ o).data.toList.all isD = true := by
  rw [cons_data, List.all_cons, h, Bool.and_true, isD_iff, dig_nat hn]; omega
theorem cons_dv {n : Nat} {o : ByteArray} (hn : n < 10) : dv (oneB n ++ o).data.toList = n * 10 ^ o.size + dv o.data.toList := by
  rw [cons_data, dv_cons, dig_nat hn, ← Lib.size_eq, Nat.add_sub_cancel_left]
theorem cons_size (n : Nat) (o : ByteArray) : (oneB n ++ o).size = o.size + 1 := by
  rw [Lib.size_eq, cons_data, List.length_cons, ← Lib.size_eq]

theorem SumI.step {a b o : ByteArray} {k c : Nat} (h : SumI a b o k c) (ha : a.data.toList.all isD = true) (hb : b.data.toList.all isD = true) (hk : k < a.size ∨ k < b.size ∨ 0 < c) :
    SumI a b (oneB ((dgAt a k + dgAt b k + c) % 10) ++ o) (k + 1) ((dgAt a k + dgAt b k + c) / 10) := by
  have h1 := dgAt_lt ha k
  have h2 := dgAt_lt hb k
  have h3 := h.c1
  have h4 := h.eq
  have h5 := h.le
  refine ⟨by rw [cons_size, h.len], cons_all (by omega) h.all, by omega, ?_, ?_⟩
  · by_cases hm : k < max a.size b.size
    · left; omega
    · right
      rw [dgAt, if_neg (by omega), dgAt, if_neg (by omega)]
      omega
  · rw [cons_dv (by omega), h.len, low_succ, low_succ, Nat.pow_succ]
    generalize 10 ^ k = E at *
    have : (dgAt a k + dgAt b k + c) % 10 * E + (dgAt a k + dgAt b k + c) / 10 * (E * 10) = dgAt a k * E + dgAt b k * E + c * E := by
      rw [← Nat.add_mul, ← Nat.add_mul]
      generalize dgAt a k + dgAt b k + c = t
      rw [Nat.mul_comm E 10, ← Nat.mul_assoc, ← Nat.add_mul, Nat.mul_comm (t / 10), Nat.mod_add_div]
    generalize (dgAt a k + dgAt b k + c) % 10 * E = x1 at *
    generalize (dgAt a k + dgAt b k + c) / 10 * (E * 10) = x2 at *
    generalize dgAt a k * E = x3 at *
    generalize dgAt b k * E = x4 at *
    generalize c * E = x5 at *
    omega

end Go.Proofs.YtgcalhnfoakggaaGreatDoor

namespace Go.Proofs.YtgcalhnfoakggaaGreatDoor
open Go.RowKit
open Go.Lib (decDigits)

/-- The difference's digits, k of them. -/
structure DifI (a b o : ByteArray) (k c : Nat) : Prop where
  len : o.size = k
  all : o.data.toList.all isD = true
  c1 : c ≤ 1
  le : k ≤ a.size
  eq : low a k + c * 10 ^ k = dv o.data.toList + low b k

theorem DifI.step {a b o : ByteArray} {k c v c' : Nat} (h : DifI a b o k c) (hk : k < a.size) (hc' : c' ≤ 1) (hv : v < 10) (e : dgAt a k + c' * 10 = v + dgAt b k + c) : DifI a b (oneB v ++ o) (k + 1) c' := by
  have h4 := h.eq
  refine ⟨by rw [cons_size, h.len], cons_all hv h.all, hc', hk, ?_⟩
  rw [cons_dv hv, h.len, low_succ, low_succ, Nat.pow_succ]
  generalize 10 ^ k = E at *
  have : dgAt a k * E + c' * (E * 10) = v * E + dgAt b k * E + c * E := by
    rw [← Nat.add_mul, ← Nat.add_mul, ← e, Nat.add_mul, Nat.mul_comm E 10, Nat.mul_assoc]
  omega

end Go.Proofs.YtgcalhnfoakggaaGreatDoor

namespace Go.Proofs.YtgcalhnfoakggaaGreatDoor
open Go.RowKit
open Go.Lib (decDigits)

/-- A quotient's digits, k of them, and what is left. -/
structure QuoI (a o : ByteArray) (d k r : Nat) : Prop where
  len : o.size = k
  all : o.data.toList.all isD = true
  le : k ≤ a.size
  lt : r < d
  eq : dv (a.data.toList.take k) = dv o.data.toList * d + r

theorem snoc_data (n : Nat) (o : ByteArray) : (o ++ oneB n).data.toList = o.data.toList ++ [UInt8.ofNat (48 + n)] := by
  rw [ByteArray.data_append]; simp [oneB]
theorem snoc_all {n : Nat} {o : ByteArray} (hn : n < 10) (h : o.data.toList.all isD = true) : (o ++ oneB n).data.toList.all isD = true := by
  rw [snoc_data, List.all_append, h, Bool.true_and, List.all_cons, List.all_nil, Bool.and_true, isD_iff, dig_nat hn]; omega
theorem snoc_dv {n : Nat} {o : ByteArray} (hn : n < 10) : dv (o ++ oneB n).data.toList = dv o.data.toList * 10 + n := by
  rw [snoc_data, dv_snoc, dig_nat hn, Nat.add_sub_cancel_left]
theorem snoc_size (n : Nat) (o : ByteArray) : (o ++ oneB n).size = o.size + 1 := by
  rw [Lib.size_eq, snoc_data, List.length_append, List.length_singleton, ← Lib.size_eq]

theorem QuoI.quot {a o : ByteArray} {d k r c : Nat} (h : QuoI a o d k r) (hc : c < 10) : (10 * r + c) / d < 10 := by
  have := h.lt
  refine Nat.div_lt_of_lt_mul ?_
  omega

theorem QuoI.step {a o : ByteArray} {d k r : Nat} (h : QuoI a o d k r) (hk : k < a.size) (hc : (byteAt a k).toNat - 48 < 10) :
    QuoI a (o ++ oneB ((10 * r + ((byteAt a k).toNat - 48)) / d)) d (k + 1) ((10 * r + ((byteAt a k).toNat - 48)) % d) := by
  have hq := h.quot hc
  have h0 : 0 < d := by have := h.lt; omega
  refine ⟨by rw [snoc_size, h.len], snoc_all hq h.all, hk, Nat.mod_lt _ h0, ?_⟩
  rw [dv_take a k hk, snoc_dv hq, h.eq]
  have h1 := Nat.div_add_mod' (10 * r + ((byteAt a k).toNat - 48)) d
  generalize (10 * r + ((byteAt a k).toNat - 48)) / d = x at *
  generalize (10 * r + ((byteAt a k).toNat - 48)) % d = y at *
  rw [Nat.add_mul, Nat.add_mul, Nat.mul_right_comm _ d 10]
  omega

set_option maxRecDepth 100000 in
set_option maxHeartbeats 1000000 in
theorem rDiv_no (a : ByteArray) (d : Nat) (w : World) (h : isNat a.data.toList = false ∨ d = 0) : Calls Tryz.prog 39 #[.string a, .int .u32 (d : Int)] w fun e w' => e = .returned (.tuple #[.string noB, .int .u32 0, .int .i64 10]) ∧ w' = w := by
  by_cases ha : isNat a.data.toList = false
  · have HA := Lib.hid ha
    clear ha h
    go_enter Tryz.func39, Tryz.ntmps39
    go_wp2_with (go_at_call 61; refine (rRight_is _ false _ HA.out).mono ?_; rintro e w1 ⟨rfl, rfl⟩)
    go_ret3
    exact ⟨rfl, rfl⟩
  · obtain rfl : d = 0 := by rcases h with h | h; exact absurd h ha; exact h
    have HA := Lib.hid (by simpa using ha : isNat a.data.toList = true)
    clear ha h
    go_enter Tryz.func39, Tryz.ntmps39
    go_wp2_with (go_at_call 61; refine (rRight_is _ true _ HA.out).mono ?_; rintro e w1 ⟨rfl, rfl⟩)
    go_ret3
    exact ⟨rfl, rfl⟩

set_option maxRecDepth 100000 in
set_option maxHeartbeats 1000000 in
theorem rDiv_yes (a : ByteArray) (d : Nat) (w : World) (ha : isNat a.data.toList = true) (hd0 : 0 < d) (hd1 : d < 4294967296) :
    Calls Tryz.prog 39 #[.string a, .int .u32 (d : Int)] w fun e w' => e = .returned (.tuple #[.string (decB (dv a.data.toList / d)), .int .u32 ((dv a.data.toList % d : Nat) : Int), .int .i64 0]) ∧ Below w.heap.size w w' := by
  obtain ⟨da, la⟩ := nat_digs ha
  have HA := Lib.hid ha
  have HDA := Lib.hid da
  have hdz : ((d : Int) == 0) = false := beq_eq_false_iff_ne.2 (by omega)
  clear ha da
  go_enter Tryz.func39, Tryz.ntmps39
  go_wp2_with (go_at_call 61; refine (rRight_is _ true _ HA.out).mono ?_; rintro e w1 ⟨rfl, rfl⟩)
  go_loopw [7, 8, 9] (fun v r i wr => ∃ (o : ByteArray) (k q : Nat), v = .string o ∧ r = .int .u64 q ∧ i = .int .i64 k ∧ QuoI a o d k q ∧ Below w1.heap.size w1 wr) (fun _ _ i _ => a.size - (intOf i).toNat)
  case atStart => exact ⟨⟨#[]⟩, 0, 0, rfl, rfl, rfl, ⟨rfl, rfl, Nat.zero_le _, hd0, by simp [dv]⟩, Below.refl _ _⟩
  case round =>
    obtain ⟨o, k, q, rfl, rfl, rfl, hI, hnx⟩ := hrel
    have HI := Lib.hid hI
    have HN := Lib.hid hnx
    have hkl := hI.le
    have hql := hI.lt
    have hos := hI.len
    clear hI hnx
    by_cases hgo : k < a.size
    · have hbe : (a[k]'hgo).toNat = (byteAt a k).toNat := by rw [byteAt_eq a k hgo]
      have hr : 48 ≤ (byteAt a k).toNat ∧ (byteAt a k).toNat ≤ 57 := by
        have hl : k < a.data.toList.length := by rw [← Lib.size_eq]; exact hgo
        rw [byteAt_list, List.getElem?_eq_getElem hl]
        exact (isD_iff _).1 ((List.all_eq_true.1 HDA.out.2) _ (List.getElem_mem hl))
      have hqt := HI.out.quot (c := (byteAt a k).toNat - 48) (by omega)
      have hcv := fun W => conv_int W ((10 * q + ((byteAt a k).toNat - 48)) / d) ((10 * (q : Int) + (((byteAt a k).toNat : Int) - 48)) / (d : Int)) (by rw [Int.natCast_ediv]; congr 1; omega) hqt
      have hone : (oneB ((10 * q + ((byteAt a k).toNat - 48)) / d)).size = 1 := rfl
      have hqi : (10 * (q : Int) + (((byteAt a k).toNat : Int) - 48)) / (d : Int) < 10 ∧ 0 ≤ (10 * (q : Int) + (((byteAt a k).toNat : Int) - 48)) / (d : Int) := by
        have e : (10 * (q : Int) + (((byteAt a k).toNat : Int) - 48)) / (d : Int) = (((10 * q + ((byteAt a k).toNat - 48)) / d : Nat) : Int) := by rw [Int.natCast_ediv]; congr 1; omega
        rw [e]
        exact ⟨Int.ofNat_lt.2 hqt, Int.natCast_nonneg _⟩
      obtain ⟨hqi1, hqi2⟩ := hqi
      clear hqt
      go_wp2
      go_roundw
      case rel => exact ⟨_, k + 1, (10 * q + ((byteAt a k).toNat - 48)) % d, rfl, by rw [Int.natCast_emod]; congr 2; omega, by go_num, HI.out.step hgo (by omega), HN.out.alloc HN.out.size _⟩
      case measure => simp [intOf]; omega
    · have HD : Hid (Digs o ∧ dv o.data.toList = dv a.data.toList / d ∧ q = dv a.data.toList % d) := by
        have h4 := HI.out.eq
        rw [List.take_of_length_le (by rw [← Lib.size_eq]; omega)] at h4
        refine Lib.hid ⟨⟨fun e => ?_, HI.out.all⟩, ?_, ?_⟩
        · have h7 := Lib.size_eq o
          have h8 := Lib.size_eq a
          rw [e, List.length_nil] at h7
          cases e2 : a.data.toList with
          | nil => exact HDA.out.1 e2
          | cons c l => rw [e2, List.length_cons] at h8; omega
        · rw [h4, Nat.mul_comm, Nat.mul_add_div hd0, Nat.div_eq_of_lt hql, Nat.add_zero]
        · rw [h4, Nat.mul_comm, Nat.mul_add_mod, Nat.mod_eq_of_lt hql]
      go_wp2_with (go_at_call 51; refine (rTrim_calls o _ HD.out.1 (by omega)).mono ?_; rintro e w3 ⟨rfl, rfl⟩)
      go_ret3
      exact ⟨by rw [HD.out.2.1, ← HD.out.2.2]; rfl, HN.out⟩
end Go.Proofs.YtgcalhnfoakggaaGreatDoor

namespace Go.Proofs.YtgcalhnfoakggaaGreatDoor
open Go.RowKit
open Go.Lib (decDigits)

def mapi (L : List Nat) : List Value := L.map fun n : Nat => Value.int .i64 (n : Int)
/-- Block g holds just the numbers L. -/
def RowI (W : World) (g : Nat) (L : List Nat) : Prop := W.heap[g]? = some (.cells (mapi L).toArray 3 (0, 0))
theorem RowI.lt {W : World} {g : Nat} {L : List Nat} (h : RowI W g L) : g < W.heap.size := (Array.getElem?_eq_some_iff.1 h).1
theorem RowI.cell {W : World} {g : Nat} {L : List Nat} (h : RowI W g L) {j : Nat} (hj : j < L.length) : W.cell? ⟨g, j, none⟩ = some (.int .i64 (lat L j : Nat)) := by
  simp only [World.cell?, show W.heap[g]? = _ from h]
  simp [mapi, lat, hj]
theorem RowI.frozen {W : World} {g : Nat} {L : List Nat} (h : RowI W g L) (j : Nat) : W.frozen? ⟨g, j, none⟩ = false := by
  simp [World.frozen?, show W.heap[g]? = _ from h]
theorem RowI.setI {W : World} {g : Nat} {L : List Nat} (h : RowI W g L) (j : Nat) {x : Int} (v : Nat) (e : x = (v : Int)) : RowI (W.setCell ⟨g, j, none⟩ (.int .i64 x)) g (L.set j v) := by
  subst e
  obtain ⟨hlt, hk⟩ := Array.getElem?_eq_some_iff.1 h
  show (W.heap.modify g _)[g]? = _
  rw [Array.getElem?_eq_getElem (by rw [Array.size_modify]; exact hlt), Array.getElem_modify_self, hk]
  simp [mapi, List.map_set]

theorem RowI.kept_alloc {W : World} {g : Nat} {L : List Nat} (h : RowI W g L) (o : Obj) : RowI (W.alloc o) g L := (Below.heap_alloc W o g h.lt).trans h

theorem info3 : (Tryz.prog.info? 3).map (fun i => (i.zero, i.size, i.bytes)) = some (some (.int .i64 0), 1, 8) := by kernel_rfl
theorem made_i (n : Nat) : (madeCells #[Value.int .i64 0] n).toList = mapi (List.replicate n 0) := by
  apply List.ext_getElem
  · simp [madeCells, mapi]
  · intro i h1 h2; simp [madeCells, mapi, Nat.mod_one]

theorem make_ints {w : World} {ops : Array Oper} {rest : List Oper} {o : Oper} {a : Act} {Q : Exit → Act → World → Prop} (hg : o.guard = none) (l c : Operand) (hop : o.op = Op.makeSlice 132 l c) (C : Int) (n : Nat)
    (hl : a.eval l = .int .i64 C) (hc : a.eval c = .int .i64 C) (hC : C = (n : Int)) (hn : n ≤ 100000)
    (hK : ∀ w', Hid (RowI w' w.heap.size (List.replicate n 0)) → Below w.heap.size w w' → wpList Tryz.prog ops Q rest (a.put o.dst (.slice (some ⟨w.heap.size, 0, none⟩) n n)) w') :
    wpList Tryz.prog ops Q (o :: rest) a w := by
  obtain ⟨i0, hi, hz0, hz1, hz2⟩ := info_parts info3
  refine wpList_make_full w hg l c 132 hop w.heap.size 3 i0 (.int .i64 0) 1 Tryz.underlying132 hi hz0 hz1 .i64 .i64 C C n hl hc hC hC (by rw [hz2]; omega) (by unfold maxLen; omega) (Nat.le_refl _) ?_
  intro w' hown hgr
  have hrow : RowI w' w.heap.size (List.replicate n 0) := by
    rcases hown.2 with ⟨e, _⟩ | ⟨g, cap, cur, e, _, hh, _, _, hs, ht⟩
    · cases e
    · cases e
      rw [show (Value.int IntKind.i64 0).cells = #[.int .i64 0] from rfl, Nat.mul_one, made_i] at ht
      rw [List.take_of_length_le (by simp [hs])] at ht
      rw [RowI, hh, ← ht]
  exact hK w' hrow ((Below.refl _ _).grown hgr (Nat.le_refl _) (fun k e => by cases e))

/-- The number of places, each worth ten times the one before. -/
def pt (L : List Nat) : Nat → Nat
  | 0 => 0
  | k + 1 => pt L k + lat L k * 10 ^ k
theorem pt_put {P : List Nat} {i v : Nat} (hi : i < P.length) : ∀ {n : Nat}, i < n → pt (P.set i v) n + lat P i * 10 ^ i = pt P n + v * 10 ^ i := by
  have key : ∀ n, n ≤ i → pt (P.set i v) n = pt P n := by
    intro n
    induction n with
    | zero => intro _; rfl
    | succ n ih => intro h; rw [pt, pt, ih (by omega), lat_set_other (by omega)]
  intro n
  induction n with
  | zero => intro h; omega
  | succ n ih =>
    intro h
    rw [pt, pt]
    by_cases e : i = n
    · subst e
      rw [lat_set_same hi, key i (Nat.le_refl _)]
      omega
    · have := ih (by omega)
      rw [lat_set_other e]
      omega

/-- i rows of the product laid. -/
structure ProO (a b : ByteArray) (P : List Nat) (n i : Nat) : Prop where
  len : P.length = n
  le : i ≤ a.size
  bd : ∀ t, lat P t ≤ 81 * i
  eq : pt P n = low a i * dv b.data.toList
/-- .. and j places of the next. -/
structure ProI (a b : ByteArray) (P : List Nat) (n i j : Nat) : Prop where
  len : P.length = n
  le : j ≤ b.size
  lo : ∀ t, t < i + j → lat P t ≤ 81 * (i + 1)
  hi : ∀ t, i + j ≤ t → lat P t ≤ 81 * i
  eq : pt P n = low a i * dv b.data.toList + dgAt a i * low b j * 10 ^ i

theorem ProO.inner {a b : ByteArray} {P : List Nat} {n i : Nat} (h : ProO a b P n i) : ProI a b P n i 0 :=
  ⟨h.len, Nat.zero_le _, fun t _ => by have := h.bd t; omega, fun t _ => h.bd t, by rw [h.eq, low_zero]; simp⟩

theorem ProI.step {a b : ByteArray} {P : List Nat} {n i j : Nat} (h : ProI a b P n i j) (hn : n = a.size + b.size) (hi : i < a.size) (hj : j < b.size) (ha : a.data.toList.all isD = true) (hb : b.data.toList.all isD = true) :
    ProI a b (P.set (i + j) (lat P (i + j) + dgAt a i * dgAt b j)) n i (j + 1) := by
  have h1 := dgAt_lt ha i
  have h2 := dgAt_lt hb j
  have h3 : dgAt a i * dgAt b j ≤ 9 * 9 := Nat.mul_le_mul (by omega) (by omega)
  have h4 := h.hi (i + j) (Nat.le_refl _)
  have hl := h.len
  refine ⟨by rw [List.length_set]; exact hl, hj, fun t ht => ?_, fun t ht => by rw [lat_set_other (by omega)]; exact h.hi t (by omega), ?_⟩
  · by_cases e : t = i + j
    · subst e; rw [lat_set_same (by omega)]; omega
    · rw [lat_set_other (by omega)]; exact h.lo t (by omega)
  · have h5 := pt_put (P := P) (i := i + j) (v := lat P (i + j) + dgAt a i * dgAt b j) (by omega) (n := n) (by omega)
    have h6 := h.eq
    rw [low_succ, Nat.mul_add, Nat.add_mul, show dgAt a i * (dgAt b j * 10 ^ j) * 10 ^ i = dgAt a i * dgAt b j * 10 ^ (i + j) from by rw [Nat.pow_add, ← Nat.mul_assoc, Nat.mul_assoc, Nat.mul_comm (10 ^ j)]]
    rw [Nat.add_mul] at h5
    omega

theorem ProI.outer {a b : ByteArray} {P : List Nat} {n i : Nat} (h : ProI a b P n i b.size) (hi : i < a.size) : ProO a b P n (i + 1) := by
  refine ⟨h.len, hi, fun t => ?_, ?_⟩
  · by_cases e : t < i + b.size
    · exact h.lo t e
    · have := h.hi t (by omega); omega
  · rw [h.eq, low_succ, low_all b (Nat.le_refl _), Nat.add_mul, Nat.mul_right_comm]

/-- The product's digits, k of them. -/
structure TelI (P : List Nat) (o : ByteArray) (n k c : Nat) : Prop where
  len : o.size = k
  le : k ≤ n
  all : o.data.toList.all isD = true
  c1 : c ≤ 40000
  eq : dv o.data.toList + c * 10 ^ k = pt P k

theorem TelI.step {P : List Nat} {o : ByteArray} {n k c : Nat} (h : TelI P o n k c) (hk : k < n) (hP : lat P k ≤ 40000) : TelI P (oneB ((lat P k + c) % 10) ++ o) n (k + 1) ((lat P k + c) / 10) := by
  have h3 := h.c1
  have h4 := h.eq
  refine ⟨by rw [cons_size, h.len], hk, cons_all (by omega) h.all, by omega, ?_⟩
  rw [cons_dv (by omega), h.len, pt, Nat.pow_succ]
  generalize 10 ^ k = E at *
  have : (lat P k + c) % 10 * E + (lat P k + c) / 10 * (E * 10) = lat P k * E + c * E := by
    rw [← Nat.add_mul]
    generalize lat P k + c = t
    rw [Nat.mul_comm E 10, ← Nat.mul_assoc, ← Nat.add_mul, Nat.mul_comm (t / 10), Nat.mod_add_div]
  generalize (lat P k + c) % 10 * E = x1 at *
  generalize (lat P k + c) / 10 * (E * 10) = x2 at *
  generalize lat P k * E = x3 at *
  generalize c * E = x5 at *
  omega

theorem mul_lt_pow {x y p q : Nat} (hx : x < 10 ^ p) (hy : y < 10 ^ q) : x * y < 10 ^ (p + q) := by
  rw [Nat.pow_add]
  exact Nat.mul_lt_mul'' hx hy

set_option maxRecDepth 100000 in
set_option maxHeartbeats 8000000 in
theorem rMul_in (a b : ByteArray) (w : World) (ha : Digs a) (hb : Digs b) (hla : a.size ≤ 410) (hlb : b.size ≤ 410) :
    Calls Tryz.prog 71 #[.string a, .string b] w fun e w' => e = .returned (.string (decB (dv a.data.toList * dv b.data.toList))) ∧ Below w.heap.size w w' := by
  have HA := Lib.hid ha
  have HB := Lib.hid hb
  clear ha hb
  have hmx : Tryz.prog.follows .mixedOrders = true := by kernel_rfl
  obtain ⟨n, hn⟩ : ∃ n, n = a.size + b.size := ⟨_, rfl⟩
  have hN : n ≤ 1000 := by omega
  have HNn := Lib.hid hn
  go_enter Tryz.func71, Tryz.ntmps71
  go_wp2_with (at_make; refine make_ints rfl (.tmp 16) (.tmp 16) rfl ((a.size : Int) + (b.size : Int)) n rfl rfl (by omega) (by omega) ?_; intro w1 hR1 hB1)
  clear hn
  go_loopw [6] (fun i wr => ∃ (P : List Nat) (k : Nat), i = .int .i64 k ∧ ProO a b P n k ∧ RowI wr w.heap.size P ∧ Below w.heap.size w wr) (fun i _ => a.size - (intOf i).toNat)
  case atStart => exact ⟨_, 0, rfl, ⟨by simp, Nat.zero_le _, fun t => by rw [lat_rep0]; omega, by
      rw [low_zero, Nat.zero_mul]
      have : ∀ m, pt (List.replicate n 0) m = 0 := by
        intro m
        induction m with
        | zero => rfl
        | succ m ih => rw [pt, ih, lat_rep0]; omega
      exact this n⟩, hR1.out, hB1⟩
  case round =>
    obtain ⟨P, k, rfl, hP, hrow, hnx⟩ := hrel
    have HP := Lib.hid hP
    have HR := Lib.hid hrow
    have HN := Lib.hid hnx
    have hk := hP.le
    clear hP hrow hnx hR1 hB1
    by_cases hlt : k < a.size
    · go_wp2
      go_loopw [7] (fun i wr => ∃ (T : List Nat) (j : Nat), i = .int .i64 j ∧ ProI a b T n k j ∧ RowI wr w.heap.size T ∧ Below w.heap.size w wr) (fun i _ => b.size - (intOf i).toNat)
      case atStart => exact ⟨P, 0, rfl, HP.out.inner, HR.out, HN.out⟩
      case round =>
        clear HP HR HN
        obtain ⟨T, l, rfl, hT, hrow, hnx⟩ := hrel
        have HT := Lib.hid hT
        have HR := Lib.hid hrow
        have HN := Lib.hid hnx
        have hl := hT.le
        by_cases hlb2 : l < b.size
        · have hda := dgAt_lt HA.out.2 k
          have hdb := dgAt_lt HB.out.2 l
          obtain ⟨m, hm⟩ : ∃ m, m = k + l := ⟨_, rfl⟩
          have hmn : m < n := by have := HNn.out; omega
          have hct := hrow.cell (j := m) (by rw [hT.len]; exact hmn)
          have hf := hrow.frozen m
          have hb1 : lat T m ≤ 40000 := by have := hT.hi m (by omega); omega
          have hkl : (k : Int) + (l : Int) = (m : Int) := by omega
          have hw1 : IntKind.i64.wrap (m : Int) = (m : Int) := by rw [IntKind.wrap_i64]; omega
          have hw2 : IntKind.i64.wrap ((k : Int) + (l : Int)) = (m : Int) := by rw [IntKind.wrap_i64]; omega
          obtain ⟨p, hp⟩ : ∃ p, p = dgAt a k * dgAt b l := ⟨_, rfl⟩
          have hpl : p ≤ 9 * 9 := by rw [hp]; exact Nat.mul_le_mul (by omega) (by omega)
          have hxy : (dgAt a k : Int) * (dgAt b l : Int) = (p : Int) := by rw [hp]; simp
          have hw3 : IntKind.i64.wrap (p : Int) = (p : Int) := by rw [IntKind.wrap_i64]; omega
          have hw4 : IntKind.i64.wrap ((dgAt a k : Int) * (dgAt b l : Int)) = (p : Int) := by rw [hxy]; exact hw3
          have hw5 : IntKind.i64.wrap ((lat T m : Int) + (p : Int)) = (lat T m : Int) + (p : Int) := by rw [IntKind.wrap_i64]; omega
          have HM := Lib.hid hm
          have HPp := Lib.hid hp
          have HS : Hid (ProI a b (T.set m (lat T m + p)) n k (l + 1)) := Lib.hid (by
            rw [HM.out, HPp.out]
            exact HT.out.step HNn.out hlt hlb2 HA.out.2 HB.out.2)
          clear hT hrow hnx hm hp
          go_wp2_with fail
          go_region_with (go_at_call 91; refine (rDigit_calls _ _ _ (by first | exact HA.out.2 | exact HB.out.2) (by omega) (by omega)).mono ?_; rintro e w2 ⟨rfl, rfl⟩)
          all_goals go_wp2
          all_goals go_roundw
          all_goals first
            | exact ⟨_, l + 1, by go_num, HS.out, HR.out.setI m (lat T m + p) (by simp), (HN.out.setCell (p := ⟨w.heap.size, m, none⟩) (Nat.le_refl _) _).drew⟩
            | (simp [intOf]; omega)
        · obtain rfl : l = b.size := by omega
          clear hT hrow hnx
          go_wp2
          go_roundw
          case rel => exact ⟨T, k + 1, by go_num, HT.out.outer hlt, HR.out, HN.out⟩
          case measure => simp [intOf]; omega
    · obtain rfl : k = a.size := by omega
      go_wp2
      go_loopw [8, 9, 10] (fun v c i wr => ∃ (o : ByteArray) (j q : Nat), v = .string o ∧ c = .int .i64 q ∧ i = .int .i64 j ∧ TelI P o n j q ∧ RowI wr w.heap.size P ∧ Below w.heap.size w wr) (fun _ _ i _ => n - (intOf i).toNat)
      case atStart => exact ⟨⟨#[]⟩, 0, 0, rfl, rfl, rfl, ⟨rfl, Nat.zero_le _, rfl, by omega, by rw [pt]; rfl⟩, HR.out, HN.out⟩
      case round =>
        clear HR HN
        obtain ⟨o, j, q, rfl, rfl, rfl, hI, hrow, hnx⟩ := hrel
        have HI := Lib.hid hI
        have HR := Lib.hid hrow
        have HN := Lib.hid hnx
        have hq := hI.c1
        have hjl := hI.le
        have hos := hI.len
        by_cases hgo : j < n
        · have hct := hrow.cell (j := j) (by rw [HP.out.len]; exact hgo)
          have hb1 : lat P j ≤ 40000 := by have := HP.out.bd j; omega
          have hcv := fun W => conv_int W ((lat P j + q) % 10) (((lat P j : Int) + (q : Int)) % 10) (by omega) (by omega)
          have hone : (oneB ((lat P j + q) % 10)).size = 1 := rfl
          have hjn : j < a.size + b.size := by have := HNn.out; omega
          clear hI hrow hnx
          go_wp2
          go_roundw
          case rel => exact ⟨_, j + 1, (lat P j + q) / 10, rfl, by go_num, by go_num, HI.out.step hgo hb1, HR.out.kept_alloc _, HN.out.alloc HN.out.size _⟩
          case measure => simp [intOf]; omega
        · have HD : Hid (Digs o ∧ dv o.data.toList = dv a.data.toList * dv b.data.toList) := by
            have h4 := HI.out.eq
            obtain rfl : j = n := by omega
            rw [HP.out.eq, low_all a (Nat.le_refl _)] at h4
            have h5 := mul_lt_pow (dv_lt a.data.toList HA.out.2) (dv_lt b.data.toList HB.out.2)
            rw [← Lib.size_eq, ← Lib.size_eq, ← HNn.out] at h5
            have h6 : q = 0 := by
              rcases Nat.eq_zero_or_pos q with h | h
              · exact h
              · have : 1 * 10 ^ j ≤ q * 10 ^ j := Nat.mul_le_mul_right _ h
                omega
            refine Lib.hid ⟨⟨fun e => ?_, HI.out.all⟩, by rw [h6, Nat.zero_mul, Nat.add_zero] at h4; exact h4⟩
            have h7 := Lib.size_eq o
            have h8 := Lib.size_eq a
            have h9 := HNn.out
            rw [e, List.length_nil] at h7
            cases e2 : a.data.toList with
            | nil => exact HA.out.1 e2
            | cons c l => rw [e2, List.length_cons] at h8; omega
          have hjn : ¬ j < a.size + b.size := by have := HNn.out; omega
          clear hI hrow hnx
          go_wp2_with (go_at_call 51; refine (rTrim_calls o _ HD.out.1 (by omega)).mono ?_; rintro e w3 ⟨rfl, rfl⟩)
          go_ret
          exact ⟨by rw [HD.out.2]; rfl, HN.out⟩
end Go.Proofs.YtgcalhnfoakggaaGreatDoor
