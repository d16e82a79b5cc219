/- The walks of the document's own naturals: Right, Trim, Of, To. -/
import Derived.Test.YtgcalhnfoakggaaDoorR0
import Derived.Lib.OwnBridge
import Derived.Lib.SmallJoins
import Derived.Maps.AppendAt
import Derived.Deep.LoopGhost
import Derived.Deep.Cut
import Derived.Deep.CutRange
import Derived.Deep.DeepCutAuto
import Derived.Deep.QuietTactic
import Derived.BigQuiet
import Derived.StillTail
import Derived.StillTailTactics
import Derived.Shelf.RegionOpenPlain
namespace Go.Proofs.YtgcalhnfoakggaaDoor
open Go.RowKit
open Go.Lib (decDigits nDigits decDigits_length decDigits_one nDigits_small lt_pow_nDigits)

theorem str_inj {a b : ByteArray} (h : a.data.toList = b.data.toList) : a = b := ByteArray.ext (Array.toList_inj.1 h)

def decB (n : Nat) : ByteArray := ⟨(decDigits n).toArray⟩

theorem decB_data (n : Nat) : (decB n).data.toList = decDigits n := by simp [decB]

theorem not_nat {s : ByteArray} (h : ¬ (Goes s ∧ ∀ t, t < s.size → isD (byteAt s t) = true)) : isNat s.data.toList = false := by
  rw [Bool.eq_false_iff]
  intro h1
  exact h ((isNat_iff s).1 h1)

/-- Digits without a nought ahead are their number's numeral, however many. -/
theorem dec_canon {l : List UInt8} (h1 : l ≠ []) (h3 : l.head? ≠ some 48 ∨ l.length = 1) (h4 : l.all isD = true) : decDigits (dv l) = l := by
  have hl : nDigits (dv l) = l.length := by
    cases l with
    | nil => exact absurd rfl h1
    | cons c m =>
      have h5 := (List.all_eq_true.1 h4) c (by simp)
      rw [isD_iff] at h5
      rcases h3 with h3 | h3
      · have hc : 49 ≤ c.toNat := by
          have : c.toNat ≠ 48 := by
            intro e
            apply h3
            have : c = 48 := UInt8.toNat.inj e
            rw [this]; rfl
          omega
        have h6 := dv_ge c m hc
        have h7 := nDigits_le (k := m.length + 1) (by omega) (dv_lt (c :: m) h4)
        have h8 := lt_pow_nDigits (dv (c :: m))
        have h9 : m.length < nDigits (dv (c :: m)) := by
          rcases Nat.lt_or_ge m.length (nDigits (dv (c :: m))) with h | h
          · exact h
          · have := Nat.pow_le_pow_right (show 0 < 10 by omega) h
            omega
        rw [List.length_cons]; omega
      · have : m = [] := List.eq_nil_of_length_eq_zero (by simpa using h3)
        subst this
        exact nDigits_small (by simp [dv]; omega)
  rw [dec_digs, hl, digs_dv l h4]

theorem dv_zero_cons (l : List UInt8) : dv (48 :: l) = dv l := by simp [dv]

theorem drop_one (s : ByteArray) : (s.extract 1 s.size).data.toList = s.data.toList.drop 1 := by
  have h : s.size = s.data.toList.length := Lib.size_eq s
  rw [ByteArray.data_extract, Array.toList_extract, List.extract_eq_take_drop, List.take_of_length_le (by rw [List.length_drop]; omega)]

/-- s: digits, one at least. -/
def Digs (s : ByteArray) : Prop := s.data.toList ≠ [] ∧ s.data.toList.all isD = true

theorem byte_head {t : ByteArray} (hs : t.data.toList ≠ []) : ∃ c l, t.data.toList = c :: l ∧ byteAt t 0 = c := by
  cases e : t.data.toList with
  | nil => exact absurd e hs
  | cons c l => exact ⟨c, l, rfl, by rw [byteAt_list, e]; rfl⟩

theorem trim_step {t : ByteArray} (hd : Digs t) (h1 : 1 < t.size) (hb : (byteAt t 0).toNat = 48) : Digs (t.extract 1 t.size) ∧ dv (t.extract 1 t.size).data.toList = dv t.data.toList ∧ (t.extract 1 t.size).size + 1 = t.size := by
  obtain ⟨c, l, e, hc⟩ := byte_head hd.1
  have h3 := Lib.size_eq t
  have h4 : c = 48 := UInt8.toNat.inj (by rw [← hc, hb]; rfl)
  have hall := hd.2
  rw [e, List.all_cons, Bool.and_eq_true] at hall
  rw [e, List.length_cons] at h3
  subst h4
  rw [Digs, drop_one, e, List.drop_one, List.tail_cons, ByteArray.size_extract]
  refine ⟨⟨?_, hall.2⟩, (dv_zero_cons l).symm, by omega⟩
  rintro rfl
  simp only [List.length_nil] at h3
  omega

theorem trimmed {t : ByteArray} (hd : Digs t) (h : ¬ (1 < t.size ∧ (byteAt t 0).toNat = 48)) : decB (dv t.data.toList) = t := by
  obtain ⟨c, l, e, hc⟩ := byte_head hd.1
  have h3 := Lib.size_eq t
  refine str_inj ?_
  rw [decB_data]
  refine dec_canon hd.1 ?_ hd.2
  by_cases h1 : 1 < t.size
  · left
    rw [e, List.head?_cons]
    intro h4
    injection h4 with h4
    exact h ⟨h1, by rw [hc, h4]; rfl⟩
  · right
    rw [e, List.length_cons] at h3 ⊢
    omega

theorem dv_cons (c : UInt8) (l : List UInt8) : dv (c :: l) = (c.toNat - 48) * 10 ^ l.length + dv l := by
  induction hn : l.length generalizing l with
  | zero => rw [List.eq_nil_of_length_eq_zero hn]; simp [dv]
  | succ k ih =>
    obtain ⟨m, d, rfl⟩ : ∃ m c, l = m ++ [c] := ⟨l.dropLast, l.getLast (by intro e; subst e; simp at hn), (List.dropLast_concat_getLast _).symm⟩
    rw [List.length_append, List.length_singleton] at hn
    rw [← List.cons_append, dv_snoc, dv_snoc, ih m (by omega), Nat.pow_succ, Nat.add_mul, ← Nat.mul_assoc]
    omega

def oneB (n : Nat) : ByteArray := ⟨#[UInt8.ofNat (48 + n)]⟩

theorem conv_one (W : World) (n : Nat) (hn : n < 10) : (convert 108 9 (.slice (some ⟨W.heap.size, 0, none⟩) 1 1)).run Tryd.prog (W.alloc (.cells #[.int .u8 ((48 : Int) + (n : Int))] 5)) = .ok (.string (oneB n)) (W.alloc (.cells #[.int .u8 ((48 : Int) + (n : Int))] 5)) := by
  refine run_convert_bytes_back _ 108 9 5 ⟨W.heap.size, 0, none⟩ 1 [UInt8.ofNat (48 + n)] Tryd.underlying108 Tryd.underlying5 Tryd.underlying9 (fun j hj => ?_)
  have : j = 0 := by simp at hj; omega
  subst this
  rw [Addr.add_lit]
  simp only [List.getElem_cons_zero, dig_nat hn]
  have := cell_one_new W (.int .u8 ((48 : Int) + (n : Int))) 5 0 _ rfl
  rw [Addr.add_lit] at this
  rw [this, show ((48 + n : Nat) : Int) = (48 : Int) + (n : Int) from by omega]

theorem conv_int (W : World) (n : Nat) (x : Int) (hx : x = (n : Int)) (hn : n < 10) : (convert 108 9 (.slice (some ⟨W.heap.size, 0, none⟩) 1 1)).run Tryd.prog (W.alloc (.cells #[.int .u8 ((48 : Int) + x)] 5)) = .ok (.string (oneB n)) (W.alloc (.cells #[.int .u8 ((48 : Int) + x)] 5)) := by
  subst hx
  exact conv_one W n hn

theorem nat_digs {s : ByteArray} (h : isNat s.data.toList = true) : Digs s ∧ s.size ≤ 400 := by
  obtain ⟨h1, h2, _, h4⟩ := isNat_parts h
  exact ⟨⟨h1, h4⟩, by rw [Lib.size_eq]; exact h2⟩

theorem dv_app (p q : List UInt8) : dv (p ++ q) = dv p * 10 ^ q.length + dv q := by
  induction hn : q.length generalizing q with
  | zero => rw [List.eq_nil_of_length_eq_zero hn]; simp [dv]
  | succ k ih =>
    obtain ⟨m, d, rfl⟩ : ∃ m c, q = m ++ [c] := ⟨q.dropLast, q.getLast (by intro e; subst e; simp at hn), (List.dropLast_concat_getLast _).symm⟩
    rw [List.length_append, List.length_singleton] at hn
    rw [← List.append_assoc, dv_snoc, dv_snoc, ih m (by omega), Nat.pow_succ, Nat.add_mul, ← Nat.mul_assoc]
    omega

theorem short_lt {l m : List UInt8} (hl : isNat l = true) (hm : isNat m = true) (h : l.length < m.length) : dv l < dv m := by
  have h1 := dv_lt l (isNat_parts hl).2.2.2
  obtain ⟨m1, _, m3, m4⟩ := isNat_parts hm
  have l1 : 1 ≤ l.length := by
    cases l with
    | nil => exact absurd rfl (isNat_parts hl).1
    | cons => simp
  cases m with
  | nil => exact absurd rfl m1
  | cons c r =>
    have hc : 49 ≤ c.toNat := by
      have h5 := (isD_iff c).1 ((List.all_eq_true.1 m4) c (by simp))
      rcases m3 with m3 | m3
      · have : c.toNat ≠ 48 := by
          intro e
          apply m3
          have : c = 48 := UInt8.toNat.inj e
          rw [this]; rfl
        omega
      · rw [m3, List.length_singleton] at h; omega
    have h2 := dv_ge c r hc
    rw [List.length_cons] at h
    have h3 : 10 ^ l.length ≤ 10 ^ r.length := Nat.pow_le_pow_right (by omega) (by omega)
    omega

theorem place_lt {a b : ByteArray} {k : Nat} (hlen : a.size = b.size) (hk : k < a.size) (ha : a.data.toList.all isD = true) (heq : ∀ t, t < k → byteAt a t = byteAt b t) (hlt : (byteAt a k).toNat < (byteAt b k).toNat) : dv a.data.toList < dv b.data.toList := by
  have la := Lib.size_eq a
  have lb := Lib.size_eq b
  have hka : k < a.data.toList.length := by omega
  have hkb : k < b.data.toList.length := by omega
  have ht : a.data.toList.take k = b.data.toList.take k := by
    apply List.ext_getElem
    · simp only [List.length_take]; omega
    · intro t h1 h2
      rw [List.length_take] at h1 h2
      have := heq t (by omega)
      rw [byteAt_list, byteAt_list, List.getElem?_eq_getElem (by omega), List.getElem?_eq_getElem (by omega)] at this
      simpa using this
  have ea : a.data.toList = a.data.toList.take k ++ byteAt a k :: a.data.toList.drop (k + 1) := by
    rw [byteAt_list, List.getElem?_eq_getElem hka, Option.getD_some, ← List.drop_eq_getElem_cons hka, List.take_append_drop]
  have eb : b.data.toList = b.data.toList.take k ++ byteAt b k :: b.data.toList.drop (k + 1) := by
    rw [byteAt_list, List.getElem?_eq_getElem hkb, Option.getD_some, ← List.drop_eq_getElem_cons hkb, List.take_append_drop]
  have ra : dv (a.data.toList.drop (k + 1)) < 10 ^ (a.data.toList.drop (k + 1)).length := dv_lt _ (by rw [List.all_eq_true] at ha ⊢; exact fun x hx => ha x (List.mem_of_mem_drop hx))
  have da : 48 ≤ (byteAt a k).toNat := by
    have hm : byteAt a k ∈ a.data.toList := by
      rw [byteAt_list, List.getElem?_eq_getElem hka, Option.getD_some]
      exact List.getElem_mem hka
    have := (List.all_eq_true.1 ha) (byteAt a k) hm
    exact ((isD_iff _).1 this).1
  have hll : (a.data.toList.drop (k + 1)).length = (b.data.toList.drop (k + 1)).length := by rw [List.length_drop, List.length_drop]; omega
  rw [ea, eb, dv_app, dv_app, dv_cons, dv_cons, List.length_cons, List.length_cons, ht, ← hll]
  have h1 : ((byteAt a k).toNat - 48 + 1) * 10 ^ (a.data.toList.drop (k + 1)).length ≤ ((byteAt b k).toNat - 48) * 10 ^ (a.data.toList.drop (k + 1)).length := Nat.mul_le_mul_right _ (by omega)
  rw [Nat.add_mul] at h1
  omega

theorem all_eq {a b : ByteArray} (hlen : a.size = b.size) (heq : ∀ t, t < a.size → byteAt a t = byteAt b t) : a = b := by
  have la := Lib.size_eq a
  have lb := Lib.size_eq b
  refine str_inj (List.ext_getElem (by omega) fun t h1 h2 => ?_)
  have := heq t (by omega)
  rw [byteAt_list, byteAt_list, List.getElem?_eq_getElem h1, List.getElem?_eq_getElem h2] at this
  simpa using this

theorem decB_step {n : Nat} (h : ¬ n < 10) : decB (n / 10) ++ oneB (n % 10) = decB n := by
  refine str_inj ?_
  rw [ByteArray.data_append, Array.toList_append, decB_data, decB_data, dec_step h]
  simp [oneB]

theorem decB_one {n : Nat} (h : n < 10) : oneB n = decB n := by
  refine str_inj ?_
  rw [decB_data, Lib.decDigits_one h]
  simp [oneB]

theorem decB_size {n : Nat} (h : n < 18446744073709551616) : (decB n).size ≤ 20 := by
  rw [Lib.size_eq, decB_data, Lib.decDigits_length]
  exact nDigits_le (by omega) (by omega)

theorem dv_take (s : ByteArray) (k : Nat) (hk : k < s.size) : dv (s.data.toList.take (k + 1)) = dv (s.data.toList.take k) * 10 + ((byteAt s k).toNat - 48) := by
  have hl : k < s.data.toList.length := by rw [← Lib.size_eq]; exact hk
  rw [List.take_succ_eq_append_getElem hl, dv_snoc, byteAt_list, List.getElem?_eq_getElem hl]
  rfl

theorem decB_digs (n : Nat) : Digs (decB n) := ⟨by rw [decB_data]; exact dec_ne n, by rw [decB_data]; exact all_dec n⟩

theorem decB_len (n : Nat) : (decB n).size = nDigits n := by rw [Lib.size_eq, decB_data, Lib.decDigits_length]

def topB : ByteArray := ⟨#[49, 56, 52, 52, 54, 55, 52, 52, 48, 55, 51, 55, 48, 57, 53, 53, 49, 54, 49, 53]⟩

theorem topB_nat : isNat topB.data.toList = true := by decide

theorem topB_dv : dv topB.data.toList = 18446744073709551615 := by decide

theorem cmp_le0 (m n : Nat) (h : m ≤ n) : ∃ x : Int, cmpI m n = x ∧ x ≤ 0 := ⟨_, rfl, by rw [cmpI]; split; omega; split <;> omega⟩

theorem dv_take_le (s : ByteArray) (k : Nat) : dv (s.data.toList.take k) ≤ dv s.data.toList := by
  conv => rhs; rw [← List.take_append_drop k s.data.toList, dv_app]
  have h1 : 1 ≤ 10 ^ (s.data.toList.drop k).length := Nat.pow_pos (by omega)
  have h2 : dv (s.data.toList.take k) * 1 ≤ dv (s.data.toList.take k) * 10 ^ (s.data.toList.drop k).length := Nat.mul_le_mul_left _ h1
  omega

end Go.Proofs.YtgcalhnfoakggaaDoor
