/- The walks of the document's own naturals: Right, Trim, Of, To. -/
import Derived.Test.YtgcalhnfoakggaaGreatDoorR0
import Derived.Lib.OwnBridge
import Derived.Lib.SmallJoins
import Derived.Maps.AppendAt
import Derived.Deep.LoopGhost
import Derived.Deep.Cut
import Derived.Deep.CutRange
import Derived.Deep.DeepCutAuto
import Derived.Deep.QuietTactic
import Derived.BigQuiet
import Derived.StillTail
import Derived.StillTailTactics
import Derived.Shelf.RegionOpenPlain
namespace Go.Proofs.YtgcalhnfoakggaaGreatDoor
open Go.RowKit
open Go.Lib (decDigits nDigits decDigits_length decDigits_one nDigits_small lt_pow_nDigits)

theorem str_inj {a b : ByteArray} (h : a.data.toList = b.data.toList) : a = b := ByteArray.ext (Array.toList_inj.1 h)

def decB (n : Nat) : ByteArray := ⟨(decDigits n).toArray⟩

theorem decB_data (n : Nat) : (decB n).data.toList = decDigits n := by simp [decB]

theorem not_nat {s : ByteArray} (h : ¬ (Goes s ∧ ∀ t, t < s.size → isD (byteAt s t) = true)) : isNat s.data.toList = false := by
  rw [Bool.eq_false_iff]
  intro h1
  exact h ((isNat_iff s).1 h1)

set_option maxRecDepth 100000 in
set_option maxHeartbeats 1000000 in
theorem rRight_calls (s : ByteArray) (w : World) : Calls Tryz.prog 61 #[.string s] w fun e w' => e = .returned (.bool (isNat s.data.toList)) ∧ w' = w := by
  by_cases hz : s.size = 0
  · have HN := Lib.hid (not_nat (s := s) (fun h => by have := h.1.1; omega))
    go_enter Tryz.func61, Tryz.ntmps61
    go_wp2
    go_ret
    exact ⟨by rw [HN.out]; rfl, rfl⟩
  · by_cases h4 : 400 < s.size
    · have HN := Lib.hid (not_nat (s := s) (fun h => by have := h.1.2.1; omega))
      go_enter Tryz.func61, Tryz.ntmps61
      go_wp2
      go_ret
      exact ⟨by rw [HN.out]; rfl, rfl⟩
    · have h0 : 0 < s.size := by omega
      by_cases hc : 1 < s.size ∧ (byteAt s 0).toNat = 48
      · obtain ⟨h1, hb⟩ := hc
        have HN := Lib.hid (not_nat (s := s) (fun h => by have h2 := h.1.2.2 hb; have h3 := Lib.size_eq s; rw [h2] at h3; simp at h3; omega))
        have hb' : (((s[0]'h0).toNat : Int) == 48) = true := by rw [← byteAt_eq s 0 h0, hb]; rfl
        go_enter Tryz.func61, Tryz.ntmps61
        go_wp2
        go_ret
        exact ⟨by rw [HN.out]; rfl, rfl⟩
      · have HG : Hid (Goes s) := Lib.hid ⟨h0, by omega, fun h => by
          have h1 : s.size = 1 := by
            rcases Nat.lt_or_ge 1 s.size with h' | h'
            · exact absurd ⟨h', h⟩ hc
            · omega
          have h3 := Lib.size_eq s
          rw [byteAt_list] at h
          cases e : s.data.toList with
          | nil => rw [e, List.length_nil] at h3; omega
          | cons c l =>
            rw [e] at h3 h
            have : l = [] := List.eq_nil_of_length_eq_zero (by rw [List.length_cons] at h3; omega)
            subst this
            have : c = 48 := UInt8.toNat.inj (by simpa using h)
            rw [this]⟩
        have hdec : s.size = 1 ∨ (1 < s.size ∧ (((s[0]'h0).toNat : Int) == 48) = false) := by
          rcases Nat.lt_or_ge 1 s.size with h' | h'
          · refine .inr ⟨h', ?_⟩
            rw [← byteAt_eq s 0 h0]
            exact beq_eq_false_iff_ne.2 (fun e => hc ⟨h', by omega⟩)
          · exact .inl (by omega)
        clear hc
        rcases hdec with h1 | ⟨h1, hb⟩
        all_goals
          go_enter Tryz.func61, Tryz.ntmps61
          go_wp2
          go_loop [3] (fun i => ∃ k : Nat, i = .int .i64 k ∧ k ≤ s.size ∧ ∀ t, t < k → isD (byteAt s t) = true) (fun i => s.size - (intOf i).toNat)
          case atStart => exact ⟨0, rfl, Nat.zero_le _, fun t ht => by omega⟩
          case round =>
            obtain ⟨k, rfl, hk, ht⟩ := hrel
            have HD := Lib.hid ht
            clear ht
            by_cases hlt : k < s.size
            · have hbe : (s[k]'hlt).toNat = (byteAt s k).toNat := by rw [byteAt_eq s k hlt]
              have hby : (byteAt s k).toNat < 256 := (byteAt s k).toNat_lt
              by_cases hl : (byteAt s k).toNat < 48
              · have HN := Lib.hid (not_nat (s := s) (fun h => by have := (isD_iff _).1 (h.2 k hlt); omega))
                go_wp2
                go_ret
                exact ⟨by rw [HN.out]; rfl, rfl⟩
              · by_cases hg : 57 < (byteAt s k).toNat
                · have HN := Lib.hid (not_nat (s := s) (fun h => by have := (isD_iff _).1 (h.2 k hlt); omega))
                  go_wp2
                  go_ret
                  exact ⟨by rw [HN.out]; rfl, rfl⟩
                · go_wp2
                  go_round
                  case rel =>
                    refine ⟨k + 1, by go_num, by omega, fun t ht => ?_⟩
                    by_cases e : t = k
                    · subst e; exact (isD_iff _).2 (by omega)
                    · exact HD.out t (by omega)
                  case measure => simp [intOf]; omega
            · have HN := Lib.hid ((isNat_iff s).2 ⟨HG.out, fun t ht => HD.out t (by omega)⟩)
              go_wp2
              go_ret
              exact ⟨by rw [HN.out]; rfl, rfl⟩

/-- Digits without a nought ahead are their number's numeral, however many. -/
theorem dec_canon {l : List UInt8} (h1 : l ≠ []) (h3 : l.head? ≠ some 48 ∨ l.length = 1) (h4 : l.all isD = true) : decDigits (dv l) = l := by
  have hl : nDigits (dv l) = l.length := by
    cases l with
    | nil => exact absurd rfl h1
    | cons c m =>
      have h5 := (List.all_eq_true.1 h4) c (by simp)
      rw [isD_iff] at h5
      rcases h3 with h3 | h3
      · have hc : 49 ≤ c.toNat := by
          have : c.toNat ≠ 48 := by
            intro e
            apply h3
            have : c = 48 := UInt8.toNat.inj e
            rw [this]; rfl
          omega
        have h6 := dv_ge c m hc
        have h7 := nDigits_le (k := m.length + 1) (by omega) (dv_lt (c :: m) h4)
        have h8 := lt_pow_nDigits (dv (c :: m))
        have h9 : m.length < nDigits (dv (c :: m)) := by
          rcases Nat.lt_or_ge m.length (nDigits (dv (c :: m))) with h | h
          · exact h
          · have := Nat.pow_le_pow_right (show 0 < 10 by omega) h
            omega
        rw [List.length_cons]; omega
      · have : m = [] := List.eq_nil_of_length_eq_zero (by simpa using h3)
        subst this
        exact nDigits_small (by simp [dv]; omega)
  rw [dec_digs, hl, digs_dv l h4]

theorem dv_zero_cons (l : List UInt8) : dv (48 :: l) = dv l := by simp [dv]

theorem drop_one (s : ByteArray) : (s.extract 1 s.size).data.toList = s.data.toList.drop 1 := by
  have h : s.size = s.data.toList.length := Lib.size_eq s
  rw [ByteArray.data_extract, Array.toList_extract, List.extract_eq_take_drop, List.take_of_length_le (by rw [List.length_drop]; omega)]

/-- s: digits, one at least. -/
def Digs (s : ByteArray) : Prop := s.data.toList ≠ [] ∧ s.data.toList.all isD = true

theorem byte_head {t : ByteArray} (hs : t.data.toList ≠ []) : ∃ c l, t.data.toList = c :: l ∧ byteAt t 0 = c := by
  cases e : t.data.toList with
  | nil => exact absurd e hs
  | cons c l => exact ⟨c, l, rfl, by rw [byteAt_list, e]; rfl⟩

theorem trim_step {t : ByteArray} (hd : Digs t) (h1 : 1 < t.size) (hb : (byteAt t 0).toNat = 48) : Digs (t.extract 1 t.size) ∧ dv (t.extract 1 t.size).data.toList = dv t.data.toList ∧ (t.extract 1 t.size).size + 1 = t.size := by
  obtain ⟨c, l, e, hc⟩ := byte_head hd.1
  have h3 := Lib.size_eq t
  have h4 : c = 48 := UInt8.toNat.inj (by rw [← hc, hb]; rfl)
  have hall := hd.2
  rw [e, List.all_cons, Bool.and_eq_true] at hall
  rw [e, List.length_cons] at h3
  subst h4
  rw [Digs, drop_one, e, List.drop_one, List.tail_cons, ByteArray.size_extract]
  refine ⟨⟨?_, hall.2⟩, (dv_zero_cons l).symm, by omega⟩
  rintro rfl
  simp only [List.length_nil] at h3
  omega

theorem trimmed {t : ByteArray} (hd : Digs t) (h : ¬ (1 < t.size ∧ (byteAt t 0).toNat = 48)) : decB (dv t.data.toList) = t := by
  obtain ⟨c, l, e, hc⟩ := byte_head hd.1
  have h3 := Lib.size_eq t
  refine str_inj ?_
  rw [decB_data]
  refine dec_canon hd.1 ?_ hd.2
  by_cases h1 : 1 < t.size
  · left
    rw [e, List.head?_cons]
    intro h4
    injection h4 with h4
    exact h ⟨h1, by rw [hc, h4]; rfl⟩
  · right
    rw [e, List.length_cons] at h3 ⊢
    omega

set_option maxRecDepth 100000 in
set_option maxHeartbeats 1000000 in
theorem rTrim_calls (s : ByteArray) (w : World) (hs : Digs s) (hmax : s.size ≤ 100000) : Calls Tryz.prog 51 #[.string s] w fun e w' => e = .returned (.string (decB (dv s.data.toList))) ∧ w' = w := by
  have HS := Lib.hid hs
  clear hs
  go_enter Tryz.func51, Tryz.ntmps51
  go_wp2
  go_loop [0] (fun v => ∃ t : ByteArray, v = .string t ∧ Digs t ∧ dv t.data.toList = dv s.data.toList ∧ t.size ≤ 100000) (fun v => match v with | .string t => t.size | _ => 0)
  case atStart => exact ⟨s, rfl, HS.out, rfl, hmax⟩
  case round =>
    obtain ⟨t, rfl, hd, hv, hm⟩ := hrel
    have HD := Lib.hid hd
    have HV := Lib.hid hv
    have HSZ := Lib.hid (Lib.size_eq t)
    have h0 : 0 < t.size := by
      have hsz := HSZ.out
      cases e : t.data.toList with
      | nil => exact absurd e hd.1
      | cons c l => rw [e, List.length_cons] at hsz; omega
    clear hd hv
    by_cases h1 : 1 < t.size
    · by_cases hb : (byteAt t 0).toNat = 48
      · have hb' : (((t[0]'h0).toNat : Int) == 48) = true := by rw [← byteAt_eq t 0 h0, hb]; rfl
        go_wp2
        obtain ⟨s1, s2, s3⟩ := trim_step HD.out h1 hb
        exact ⟨⟨_, rfl, s1, s2.trans HV.out, by omega⟩, by simp only; omega⟩
      · have hb' : (((t[0]'h0).toNat : Int) == 48) = false := by rw [← byteAt_eq t 0 h0]; exact beq_eq_false_iff_ne.2 (by omega)
        go_wp2
        go_ret
        exact ⟨by rw [← HV.out, trimmed HD.out (fun h => hb h.2)]; rfl, rfl⟩
    · go_wp2
      go_ret
      exact ⟨by rw [← HV.out, trimmed HD.out (fun h => h1 h.1)]; rfl, rfl⟩

theorem dv_cons (c : UInt8) (l : List UInt8) : dv (c :: l) = (c.toNat - 48) * 10 ^ l.length + dv l := by
  induction hn : l.length generalizing l with
  | zero => rw [List.eq_nil_of_length_eq_zero hn]; simp [dv]
  | succ k ih =>
    obtain ⟨m, d, rfl⟩ : ∃ m c, l = m ++ [c] := ⟨l.dropLast, l.getLast (by intro e; subst e; simp at hn), (List.dropLast_concat_getLast _).symm⟩
    rw [List.length_append, List.length_singleton] at hn
    rw [← List.cons_append, dv_snoc, dv_snoc, ih m (by omega), Nat.pow_succ, Nat.add_mul, ← Nat.mul_assoc]
    omega

def oneB (n : Nat) : ByteArray := ⟨#[UInt8.ofNat (48 + n)]⟩

theorem conv_one (W : World) (n : Nat) (hn : n < 10) : (convert 81 9 (.slice (some ⟨W.heap.size, 0, none⟩) 1 1)).run Tryz.prog (W.alloc (.cells #[.int .u8 ((48 : Int) + (n : Int))] 5)) = .ok (.string (oneB n)) (W.alloc (.cells #[.int .u8 ((48 : Int) + (n : Int))] 5)) := by
  refine run_convert_bytes_back _ 81 9 5 ⟨W.heap.size, 0, none⟩ 1 [UInt8.ofNat (48 + n)] Tryz.underlying81 Tryz.underlying5 Tryz.underlying9 (fun j hj => ?_)
  have : j = 0 := by simp at hj; omega
  subst this
  rw [Addr.add_lit]
  simp only [List.getElem_cons_zero, dig_nat hn]
  have := cell_one_new W (.int .u8 ((48 : Int) + (n : Int))) 5 0 _ rfl
  rw [Addr.add_lit] at this
  rw [this, show ((48 + n : Nat) : Int) = (48 : Int) + (n : Int) from by omega]

theorem conv_int (W : World) (n : Nat) (x : Int) (hx : x = (n : Int)) (hn : n < 10) : (convert 81 9 (.slice (some ⟨W.heap.size, 0, none⟩) 1 1)).run Tryz.prog (W.alloc (.cells #[.int .u8 ((48 : Int) + x)] 5)) = .ok (.string (oneB n)) (W.alloc (.cells #[.int .u8 ((48 : Int) + x)] 5)) := by
  subst hx
  exact conv_one W n hn

theorem nat_digs {s : ByteArray} (h : isNat s.data.toList = true) : Digs s ∧ s.size ≤ 400 := by
  obtain ⟨h1, h2, _, h4⟩ := isNat_parts h
  exact ⟨⟨h1, h4⟩, by rw [Lib.size_eq]; exact h2⟩

theorem rRight_is (s : ByteArray) (v : Bool) (w : World) (h : isNat s.data.toList = v) : Calls Tryz.prog 61 #[.string s] w fun e w' => e = .returned (.bool v) ∧ w' = w := h ▸ rRight_calls s w

theorem dv_app (p q : List UInt8) : dv (p ++ q) = dv p * 10 ^ q.length + dv q := by
  induction hn : q.length generalizing q with
  | zero => rw [List.eq_nil_of_length_eq_zero hn]; simp [dv]
  | succ k ih =>
    obtain ⟨m, d, rfl⟩ : ∃ m c, q = m ++ [c] := ⟨q.dropLast, q.getLast (by intro e; subst e; simp at hn), (List.dropLast_concat_getLast _).symm⟩
    rw [List.length_append, List.length_singleton] at hn
    rw [← List.append_assoc, dv_snoc, dv_snoc, ih m (by omega), Nat.pow_succ, Nat.add_mul, ← Nat.mul_assoc]
    omega

theorem short_lt {l m : List UInt8} (hl : isNat l = true) (hm : isNat m = true) (h : l.length < m.length) : dv l < dv m := by
  have h1 := dv_lt l (isNat_parts hl).2.2.2
  obtain ⟨m1, _, m3, m4⟩ := isNat_parts hm
  have l1 : 1 ≤ l.length := by
    cases l with
    | nil => exact absurd rfl (isNat_parts hl).1
    | cons => simp
  cases m with
  | nil => exact absurd rfl m1
  | cons c r =>
    have hc : 49 ≤ c.toNat := by
      have h5 := (isD_iff c).1 ((List.all_eq_true.1 m4) c (by simp))
      rcases m3 with m3 | m3
      · have : c.toNat ≠ 48 := by
          intro e
          apply m3
          have : c = 48 := UInt8.toNat.inj e
          rw [this]; rfl
        omega
      · rw [m3, List.length_singleton] at h; omega
    have h2 := dv_ge c r hc
    rw [List.length_cons] at h
    have h3 : 10 ^ l.length ≤ 10 ^ r.length := Nat.pow_le_pow_right (by omega) (by omega)
    omega

theorem place_lt {a b : ByteArray} {k : Nat} (hlen : a.size = b.size) (hk : k < a.size) (ha : a.data.toList.all isD = true) (heq : ∀ t, t < k → byteAt a t = byteAt b t) (hlt : (byteAt a k).toNat < (byteAt b k).toNat) : dv a.data.toList < dv b.data.toList := by
  have la := Lib.size_eq a
  have lb := Lib.size_eq b
  have hka : k < a.data.toList.length := by omega
  have hkb : k < b.data.toList.length := by omega
  have ht : a.data.toList.take k = b.data.toList.take k := by
    apply List.ext_getElem
    · simp only [List.length_take]; omega
    · intro t h1 h2
      rw [List.length_take] at h1 h2
      have := heq t (by omega)
      rw [byteAt_list, byteAt_list, List.getElem?_eq_getElem (by omega), List.getElem?_eq_getElem (by omega)] at this
      simpa using this
  have ea : a.data.toList = a.data.toList.take k ++ byteAt a k :: a.data.toList.drop (k + 1) := by
    rw [byteAt_list, List.getElem?_eq_getElem hka, Option.getD_some, ← List.drop_eq_getElem_cons hka, List.take_append_drop]
  have eb : b.data.toList = b.data.toList.take k ++ byteAt b k :: b.data.toList.drop (k + 1) := by
    rw [byteAt_list, List.getElem?_eq_getElem hkb, Option.getD_some, ← List.drop_eq_getElem_cons hkb, List.take_append_drop]
  have ra : dv (a.data.toList.drop (k + 1)) < 10 ^ (a.data.toList.drop (k + 1)).length := dv_lt _ (by rw [List.all_eq_true] at ha ⊢; exact fun x hx => ha x (List.mem_of_mem_drop hx))
  have da : 48 ≤ (byteAt a k).toNat := by
    have hm : byteAt a k ∈ a.data.toList := by
      rw [byteAt_list, List.getElem?_eq_getElem hka, Option.getD_some]
      exact List.getElem_mem hka
    have := (List.all_eq_true.1 ha) (byteAt a k) hm
    exact ((isD_iff _).1 this).1
  have hll : (a.data.toList.drop (k + 1)).length = (b.data.toList.drop (k + 1)).length := by rw [List.length_drop, List.length_drop]; omega
  rw [ea, eb, dv_app, dv_app, dv_cons, dv_cons, List.length_cons, List.length_cons, ht, ← hll]
  have h1 : ((byteAt a k).toNat - 48 + 1) * 10 ^ (a.data.toList.drop (k + 1)).length ≤ ((byteAt b k).toNat - 48) * 10 ^ (a.data.toList.drop (k + 1)).length := Nat.mul_le_mul_right _ (by omega)
  rw [Nat.add_mul] at h1
  omega

theorem all_eq {a b : ByteArray} (hlen : a.size = b.size) (heq : ∀ t, t < a.size → byteAt a t = byteAt b t) : a = b := by
  have la := Lib.size_eq a
  have lb := Lib.size_eq b
  refine str_inj (List.ext_getElem (by omega) fun t h1 h2 => ?_)
  have := heq t (by omega)
  rw [byteAt_list, byteAt_list, List.getElem?_eq_getElem h1, List.getElem?_eq_getElem h2] at this
  simpa using this

set_option maxRecDepth 100000 in
set_option maxHeartbeats 2000000 in
theorem rCompare_in (a b : ByteArray) (w : World) (ha : isNat a.data.toList = true) (hb : isNat b.data.toList = true) :
    Calls Tryz.prog 62 #[.string a, .string b] w fun e w' => e = .returned (.int .i64 (cmpI (dv a.data.toList) (dv b.data.toList))) ∧ Below w.heap.size w w' := by
  obtain ⟨da, la⟩ := nat_digs ha
  obtain ⟨db, lb⟩ := nat_digs hb
  have sa := Lib.size_eq a
  have sb := Lib.size_eq b
  rcases Nat.lt_trichotomy a.size b.size with h | h | h
  · have HC := Lib.hid (cmpI_lt (show (dv a.data.toList : Int) < (dv b.data.toList : Int) by have := short_lt ha hb (by omega); omega))
    clear sa sb da db
    go_enter Tryz.func62, Tryz.ntmps62
    go_wp2
    go_ret
    exact ⟨by rw [HC.out]; rfl, Below.refl _ _⟩
  · have HDA := Lib.hid da
    have HDB := Lib.hid db
    have hmx : Tryz.prog.follows .mixedOrders = true := by kernel_rfl
    clear sa sb da db ha hb
    go_enter Tryz.func62, Tryz.ntmps62
    go_wp2
    go_loopw [5] (fun i wr => ∃ k : Nat, i = .int .i64 k ∧ k ≤ a.size ∧ (∀ t, t < k → byteAt a t = byteAt b t) ∧ Below w.heap.size w wr) (fun i _ => a.size - (intOf i).toNat)
    case atStart => exact ⟨0, rfl, Nat.zero_le _, fun t ht => by omega, Below.refl _ _⟩
    case round =>
      obtain ⟨k, rfl, hk, he, hnx⟩ := hrel
      have HE := Lib.hid he
      have HN := Lib.hid hnx
      clear he hnx
      by_cases hlt : k < a.size
      · have hlb : k < b.size := by omega
        have hba : (a[k]'hlt).toNat = (byteAt a k).toNat := by rw [byteAt_eq a k hlt]
        have hbb : (b[k]'hlb).toNat = (byteAt b k).toNat := by rw [byteAt_eq b k hlb]
        rcases Nat.lt_trichotomy (byteAt a k).toNat (byteAt b k).toNat with h1 | h1 | h1
        · have HC := Lib.hid (cmpI_lt (show (dv a.data.toList : Int) < (dv b.data.toList : Int) by have := place_lt h hlt HDA.out.2 HE.out h1; omega))
          go_wp2_with fail
          go_region_o
          all_goals go_wp2
          all_goals go_ret
          all_goals exact ⟨by rw [HC.out]; rfl, HN.out.drew⟩
        · have h2 : byteAt a k = byteAt b k := UInt8.toNat.inj h1
          have h3 : ¬ (byteAt a k).toNat < (byteAt b k).toNat := by omega
          have h4 : ¬ (byteAt b k).toNat < (byteAt a k).toNat := by omega
          have H2 := Lib.hid h2
          clear h2 h1
          go_wp2_with fail
          go_region_o
          all_goals go_wp2_with fail
          all_goals go_region_o
          all_goals go_wp2
          all_goals go_roundw
          case rel =>
            refine ⟨k + 1, by go_num, by omega, fun t ht => ?_, HN.out.drew.drew⟩
            by_cases e : t = k
            · subst e; exact H2.out
            · exact HE.out t (by omega)
          case measure => simp [intOf]; omega
        · have h3 : ¬ (byteAt a k).toNat < (byteAt b k).toNat := by omega
          have HC := Lib.hid (cmpI_gt (show (dv b.data.toList : Int) < (dv a.data.toList : Int) by have := place_lt h.symm hlb HDB.out.2 (fun t ht => (HE.out t ht).symm) h1; omega))
          go_wp2_with fail
          go_region_o
          all_goals go_wp2_with fail
          all_goals go_region_o
          all_goals go_wp2
          all_goals go_ret
          all_goals exact ⟨by rw [HC.out]; rfl, HN.out.drew.drew⟩
      · have HC := Lib.hid (show cmpI (dv a.data.toList) (dv b.data.toList) = 0 by rw [all_eq h (fun t ht => HE.out t (by omega)), cmpI_eq])
        have hlb : ¬ k < b.size := by omega
        go_wp2
        go_ret
        exact ⟨by rw [HC.out]; rfl, HN.out⟩
  · have HC := Lib.hid (cmpI_gt (show (dv b.data.toList : Int) < (dv a.data.toList : Int) by have := short_lt hb ha (by omega); omega))
    have h2 : ¬ a.size < b.size := by omega
    clear sa sb da db
    go_enter Tryz.func62, Tryz.ntmps62
    go_wp2
    go_ret
    exact ⟨by rw [HC.out]; rfl, Below.refl _ _⟩

theorem rCompare_is (a b : ByteArray) (x : Int) (w : World) (ha : isNat a.data.toList = true) (hb : isNat b.data.toList = true) (hx : cmpI (dv a.data.toList) (dv b.data.toList) = x) :
    Calls Tryz.prog 62 #[.string a, .string b] w fun e w' => e = .returned (.int .i64 x) ∧ Below w.heap.size w w' := hx ▸ rCompare_in a b w ha hb

theorem decB_step {n : Nat} (h : ¬ n < 10) : decB (n / 10) ++ oneB (n % 10) = decB n := by
  refine str_inj ?_
  rw [ByteArray.data_append, Array.toList_append, decB_data, decB_data, dec_step h]
  simp [oneB]

theorem decB_one {n : Nat} (h : n < 10) : oneB n = decB n := by
  refine str_inj ?_
  rw [decB_data, Lib.decDigits_one h]
  simp [oneB]

theorem decB_size {n : Nat} (h : n < 18446744073709551616) : (decB n).size ≤ 20 := by
  rw [Lib.size_eq, decB_data, Lib.decDigits_length]
  exact nDigits_le (by omega) (by omega)

set_option maxRecDepth 100000 in
set_option maxHeartbeats 1000000 in
theorem rOf_calls (n : Nat) : ∀ (w : World), n < 18446744073709551616 → Calls Tryz.prog 31 #[.int .u64 (n : Int)] w fun e w' => e = .returned (.string (decB n)) ∧ Below w.heap.size w w' := by
  induction n using Nat.strongRecOn with
  | _ n ih =>
    intro w hn
    have hcv := fun W => conv_int W (n % 10) ((n : Int) % 10) (by omega) (by omega)
    by_cases h : n < 10
    · have H1 := Lib.hid (show oneB (n % 10) = decB n by rw [Nat.mod_eq_of_lt h, decB_one h])
      clear ih
      go_enter Tryz.func31, Tryz.ntmps31
      go_wp2
      go_ret
      exact ⟨by rw [← H1.out]; rfl, (Below.refl _ _).alloc (Nat.le_refl _) _⟩
    · have IH : Hid (∀ w, Calls Tryz.prog 31 #[.int .u64 ((n : Int) / 10)] w fun e w' => e = .returned (.string (decB (n / 10))) ∧ Below w.heap.size w w') := Lib.hid (fun w => by
        rw [show ((n : Int) / 10) = ((n / 10 : Nat) : Int) from by omega]
        exact ih (n / 10) (by omega) w (by omega))
      have H1 := Lib.hid (decB_step h)
      have hs : (decB (n / 10)).size ≤ 20 := decB_size (by omega)
      have hone : (oneB (n % 10)).size = 1 := rfl
      clear ih
      go_enter Tryz.func31, Tryz.ntmps31
      go_wp2_with (go_at_call 31; refine (IH.out _).mono ?_; rintro e w1 ⟨rfl, hb1⟩)
      go_ret
      exact ⟨by rw [← H1.out]; rfl, ((Below.refl _ _).alloc (Nat.le_refl _) _).trans (hb1.mono (by simp))⟩

theorem dv_take (s : ByteArray) (k : Nat) (hk : k < s.size) : dv (s.data.toList.take (k + 1)) = dv (s.data.toList.take k) * 10 + ((byteAt s k).toNat - 48) := by
  have hl : k < s.data.toList.length := by rw [← Lib.size_eq]; exact hk
  rw [List.take_succ_eq_append_getElem hl, dv_snoc, byteAt_list, List.getElem?_eq_getElem hl]
  rfl

theorem decB_digs (n : Nat) : Digs (decB n) := ⟨by rw [decB_data]; exact dec_ne n, by rw [decB_data]; exact all_dec n⟩

theorem decB_len (n : Nat) : (decB n).size = nDigits n := by rw [Lib.size_eq, decB_data, Lib.decDigits_length]

def topB : ByteArray := ⟨#[49, 56, 52, 52, 54, 55, 52, 52, 48, 55, 51, 55, 48, 57, 53, 53, 49, 54, 49, 53]⟩

theorem topB_nat : isNat topB.data.toList = true := by decide

theorem topB_dv : dv topB.data.toList = 18446744073709551615 := by decide

set_option maxRecDepth 100000 in
set_option maxHeartbeats 1000000 in
theorem rTo_no (a : ByteArray) (w : World) (h : isNat a.data.toList = false) : Calls Tryz.prog 40 #[.string a] w fun e w' => e = .returned (.tuple #[.int .u64 0, .bool false]) ∧ Below w.heap.size w w' := by
  have HA := Lib.hid h
  clear h
  go_enter Tryz.func40, Tryz.ntmps40
  go_wp2_with (go_at_call 61; refine (rRight_is _ false _ HA.out).mono ?_; rintro e w1 ⟨rfl, rfl⟩)
  go_ret2
  exact ⟨rfl, Below.refl _ _⟩

theorem top_cmp (a : ByteArray) (x : Int) (w : World) (ha : isNat a.data.toList = true) (hx : cmpI (dv a.data.toList) (18446744073709551615 : Nat) = x) :
    Calls Tryz.prog 62 #[.string a, .string ⟨#[49, 56, 52, 52, 54, 55, 52, 52, 48, 55, 51, 55, 48, 57, 53, 53, 49, 54, 49, 53]⟩] w fun e w' => e = .returned (.int .i64 x) ∧ Below w.heap.size w w' :=
  rCompare_is a topB x w ha topB_nat (by rw [topB_dv]; exact hx)

set_option maxRecDepth 100000 in
set_option maxHeartbeats 1000000 in
theorem rTo_big (a : ByteArray) (w : World) (h : isNat a.data.toList = true) (hb : 18446744073709551616 ≤ dv a.data.toList) : Calls Tryz.prog 40 #[.string a] w fun e w' => e = .returned (.tuple #[.int .u64 0, .bool false]) ∧ Below w.heap.size w w' := by
  have HA := Lib.hid h
  have HX := Lib.hid (cmpI_gt (a := (dv a.data.toList : Int)) (b := ((18446744073709551615 : Nat) : Int)) (by omega))
  clear h hb
  go_enter Tryz.func40, Tryz.ntmps40
  go_wp2_with (first
    | (go_at_call 61; refine (rRight_is _ true _ HA.out).mono ?_; rintro e w1 ⟨rfl, rfl⟩)
    | (go_at_call 62; refine (top_cmp a 1 _ HA.out HX.out).mono ?_; rintro e w2 ⟨rfl, hb2⟩))
  go_ret2
  exact ⟨rfl, hb2⟩

theorem cmp_le0 (m n : Nat) (h : m ≤ n) : ∃ x : Int, cmpI m n = x ∧ x ≤ 0 := ⟨_, rfl, by rw [cmpI]; split; omega; split <;> omega⟩

theorem top_le (a : ByteArray) (ha : isNat a.data.toList = true) (hb : dv a.data.toList < 18446744073709551616) : ∃ x : Int, x ≤ 0 ∧ ∀ w, Calls Tryz.prog 62 #[.string a, .string ⟨#[49, 56, 52, 52, 54, 55, 52, 52, 48, 55, 51, 55, 48, 57, 53, 53, 49, 54, 49, 53]⟩] w fun e w' => e = .returned (.int .i64 x) ∧ Below w.heap.size w w' := by
  obtain ⟨x, hx, hx0⟩ := cmp_le0 (dv a.data.toList) 18446744073709551615 (by omega)
  exact ⟨x, hx0, fun w => top_cmp a x w ha hx⟩

theorem dv_take_le (s : ByteArray) (k : Nat) : dv (s.data.toList.take k) ≤ dv s.data.toList := by
  conv => rhs; rw [← List.take_append_drop k s.data.toList, dv_app]
  have h1 : 1 ≤ 10 ^ (s.data.toList.drop k).length := Nat.pow_pos (by omega)
  have h2 : dv (s.data.toList.take k) * 1 ≤ dv (s.data.toList.take k) * 10 ^ (s.data.toList.drop k).length := Nat.mul_le_mul_left _ h1
  omega

set_option maxRecDepth 100000 in
set_option maxHeartbeats 1000000 in
theorem rTo_yes (a : ByteArray) (w : World) (h : isNat a.data.toList = true) (hb : dv a.data.toList < 18446744073709551616) : Calls Tryz.prog 40 #[.string a] w fun e w' => e = .returned (.tuple #[.int .u64 (dv a.data.toList : Nat), .bool true]) ∧ Below w.heap.size w w' := by
  obtain ⟨da, la⟩ := nat_digs h
  have HA := Lib.hid h
  have HDA := Lib.hid da
  have HL := Lib.hid hb
  obtain ⟨x, hx0, hx⟩ := top_le a h hb
  have HX := Lib.hid hx
  clear h hb da hx
  go_enter Tryz.func40, Tryz.ntmps40
  go_wp2_with (first
    | (go_at_call 61; refine (rRight_is _ true _ HA.out).mono ?_; rintro e w1 ⟨rfl, rfl⟩)
    | (go_at_call 62; refine (HX.out _).mono ?_; rintro e w2 ⟨rfl, hb2⟩))
  go_loopw [4, 5] (fun v i wr => ∃ k : Nat, v = .int .u64 (dv (a.data.toList.take k) : Nat) ∧ i = .int .i64 k ∧ k ≤ a.size ∧ wr = w2) (fun _ i _ => a.size - (intOf i).toNat)
  case atStart => exact ⟨0, by simp [dv], rfl, Nat.zero_le _, rfl⟩
  case round =>
    obtain ⟨k, rfl, rfl, hk, rfl⟩ := hrel
    by_cases hgo : k < a.size
    · have hbe : (a[k]'hgo).toNat = (byteAt a k).toNat := by rw [byteAt_eq a k hgo]
      have hr : 48 ≤ (byteAt a k).toNat ∧ (byteAt a k).toNat ≤ 57 := by
        have hl : k < a.data.toList.length := by rw [← Lib.size_eq]; exact hgo
        rw [byteAt_list, List.getElem?_eq_getElem hl]
        exact (isD_iff _).1 ((List.all_eq_true.1 HDA.out.2) _ (List.getElem_mem hl))
      have h1 := dv_take a k hgo
      have h2 := dv_take_le a (k + 1)
      have h3 := HL.out
      obtain ⟨q, hq⟩ : ∃ q, q = dv (a.data.toList.take k) := ⟨_, rfl⟩
      rw [← hq] at h1 ⊢
      have h4 : q * 10 + ((byteAt a k).toNat - 48) < 18446744073709551616 := by omega
      have HE := Lib.hid h1
      have HQ := Lib.hid hq
      clear h1 h2 h3 hq
      go_wp2
      go_roundw
      case rel => exact ⟨k + 1, by rw [HE.out]; go_num, by go_num, hgo, by first | rfl | trivial⟩
      case measure => simp [intOf]; omega
    · obtain rfl : k = a.size := by omega
      go_wp2
      go_ret2
      exact ⟨by rw [List.take_of_length_le (by rw [← Lib.size_eq]; exact Nat.le_refl _)]; rfl, hb2⟩
end Go.Proofs.YtgcalhnfoakggaaGreatDoor
