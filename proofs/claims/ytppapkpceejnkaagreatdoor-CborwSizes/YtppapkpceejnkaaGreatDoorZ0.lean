/- Plain items: what they are, and that they are read as their tree (plain mathematics; it names no function of the program). Plain items of trees that fit; different trees' are different, and none begins another one (plain mathematics). How long plain items are: no longer than what was read (plain mathematics). -/
import Derived.Test.YtppapkpceejnkaaGreatDoorZd
import Derived.Test.YtppapkpceejnkaaGreatDoorZe
import Derived.Test.YtppapkpceejnkaaGreatDoorMp
import Derived.Test.YtppapkpceejnkaaGreatDoorMc
namespace Go.Proofs.YtppapkpceejnkaaGreatDoor
open Go.RowKit
open Go.Lib (decDigits nDigits)

/-! What makes a node right. -/
theorem bq_eq {a b : ByteArray} (h : a.toList = b.toList) : a = b := str_inj (by rw [← Lib.toList_data, ← Lib.toList_data]; exact h)
theorem sm_hd {h h2 : Hd} (e : sameH h h2 = true) : h = h2 := by
  simp only [sameH, Bool.and_eq_true, beq_iff_eq, decide_eq_true_eq] at e
  obtain ⟨⟨⟨⟨⟨h1, h2'⟩, ⟨h3, h4⟩, h5⟩, h6⟩, h7⟩, h8⟩ := e
  cases h
  cases h2
  simp only at h1 h2' h3 h4 h5 h6 h7 h8
  rw [h1, h2', h3, bq_eq h4, h5, Int.ofNat.inj h6, h7, bq_eq h8]
theorem sm_self (h : Hd) : sameH h h = true := by simp [sameH]
theorem sm_fo : ∀ (f f2 : Fo), sameF f f2 = true → f = f2
  | .nil, .nil, _ => rfl
  | .cons h k r, .cons h2 k2 r2, e => by
    simp only [sameF, Bool.and_eq_true] at e
    rw [sm_hd e.1.1, sm_fo k k2 e.1.2, sm_fo r r2 e.2]
  | .nil, .cons _ _ _, e => by cases e
  | .cons _ _ _, .nil, e => by cases e
theorem sm_fself : ∀ (f : Fo), sameF f f = true
  | .nil => rfl
  | .cons h k r => by rw [sameF, sm_self, sm_fself k, sm_fself r]; rfl
theorem fo_none {k : Fo} (h : (k.len : Int) = 0) : k = .nil := by
  cases k with
  | nil => rfl
  | cons a b c => rw [Fo.len] at h; omega
section
variable {h : Hd} {k : Fo}
theorem is_1 (e : h.kind = 1) (ho : okN h k = true) : h = nullH ∧ k = .nil := by
  rw [okN, if_pos e, o_isNull, j_isNull, Bool.and_eq_true, beq_iff_eq] at ho
  exact ⟨(sm_hd ho.1).trans (by rw [e]; rfl), fo_none ho.2⟩
theorem is_2 (e : h.kind = 2) (ho : okN h k = true) : h = boolH h.b ∧ k = .nil := by
  rw [okN, if_neg (by omega), if_pos e, o_isBool, j_isBool, Bool.and_eq_true, beq_iff_eq] at ho
  exact ⟨(sm_hd ho.1).trans (by rw [e]; rfl), fo_none ho.2⟩
theorem is_3 (e : h.kind = 3) (ho : okN h k = true) : (h = ⟨3, false, h.neg, h.dig, h.exp, 0, 0, ⟨#[]⟩⟩ ∧ k = .nil) ∧ rightD h.neg h.dig.data.toList h.exp = true := by
  rw [okN, if_neg (by omega), if_neg (by omega), if_pos e, o_isNum, j_isNum, Bool.and_eq_true, Bool.and_eq_true, beq_iff_eq] at ho
  exact ⟨⟨(sm_hd ho.1.1).trans (by rw [e]), fo_none ho.1.2⟩, ho.2⟩
theorem is_4 (e : h.kind = 4) (ho : okN h k = true) : (h = floH h.w h.u ∧ k = .nil) ∧ (widO h.u h.w).isSome = true := by
  rw [okN, if_neg (by omega), if_neg (by omega), if_neg (by omega), if_pos e, o_isFloat, j_isFloat, Bool.and_eq_true, Bool.and_eq_true, beq_iff_eq] at ho
  exact ⟨⟨(sm_hd ho.2.1).trans (by rw [e]; rfl), fo_none ho.2.2⟩, ho.1⟩
theorem is_5 (e : h.kind = 5) (ho : okN h k = true) : (h = strH 3 h.s.data.toList ∧ k = .nil) ∧ h.s.size ≤ 400 := by
  rw [okN, if_neg (by omega), if_neg (by omega), if_neg (by omega), if_neg (by omega), if_pos e, o_isText, o_isBytes, j_isBytes, Bool.and_eq_true, Bool.and_eq_true, Bool.and_eq_true, beq_iff_eq, decide_eq_true_eq] at ho
  exact ⟨⟨(sm_hd ho.1.1.1).trans (by rw [e]; rfl), fo_none ho.1.1.2⟩, ho.1.2⟩
theorem is_6 (e : h.kind = 6) (ho : okN h k = true) : (h = strH 2 h.s.data.toList ∧ k = .nil) ∧ h.s.size ≤ 400 := by
  rw [okN, if_neg (by omega), if_neg (by omega), if_neg (by omega), if_neg (by omega), if_neg (by omega), if_pos e, o_isBytes, j_isBytes, Bool.and_eq_true, Bool.and_eq_true, beq_iff_eq, decide_eq_true_eq] at ho
  exact ⟨⟨(sm_hd ho.1.1).trans (by rw [e]; rfl), fo_none ho.1.2⟩, ho.2⟩
theorem is_7 (e : h.kind = 7) (ho : okN h k = true) : h = arrC := by
  rw [okN, if_neg (by omega), if_neg (by omega), if_neg (by omega), if_neg (by omega), if_neg (by omega), if_neg (by omega), if_pos e, o_isArray, j_isArray, Bool.and_eq_true] at ho
  exact (sm_hd ho.1).trans (by rw [e]; rfl)
theorem is_8 (e : h.kind = 8) (ho : okN h k = true) : h = mapC ∧ k.len % 2 = 0 := by
  rw [okN, if_neg (by omega), if_neg (by omega), if_neg (by omega), if_neg (by omega), if_neg (by omega), if_neg (by omega), if_neg (by omega), if_pos e, o_isMap, o_isArray, j_isArray, Bool.and_eq_true, Bool.and_eq_true, Bool.and_eq_true, decide_eq_true_eq] at ho
  exact ⟨(sm_hd ho.1.1.1).trans (by rw [e]; rfl), ho.1.2⟩
theorem is_9 (e : h.kind = 9) (ho : okN h k = true) : h = tgC h.u ∧ k.len = 1 := by
  rw [okN, if_neg (by omega), if_neg (by omega), if_neg (by omega), if_neg (by omega), if_neg (by omega), if_neg (by omega), if_neg (by omega), if_neg (by omega), if_pos e, o_isTag, j_isTag, Bool.and_eq_true, Bool.and_eq_true, decide_eq_true_eq] at ho
  exact ⟨(sm_hd ho.1.1).trans (by rw [e]; rfl), ho.2⟩
theorem is_10 (e : h.kind = 10) (ho : okN h k = true) : (h = simH h.u ∧ k = .nil) ∧ simpleN h.u = true := by
  rw [okN, if_neg (by omega), if_neg (by omega), if_neg (by omega), if_neg (by omega), if_neg (by omega), if_neg (by omega), if_neg (by omega), if_neg (by omega), if_neg (by omega), if_pos e, o_isSimple, j_isSimple, Bool.and_eq_true, Bool.and_eq_true, beq_iff_eq] at ho
  exact ⟨⟨(sm_hd ho.1.1).trans (by rw [e]; rfl), fo_none ho.1.2⟩, ho.2⟩
end

/-! Numbers. -/
theorem make_of {n : Bool} {l : List UInt8} {e : Int} {a : Bool} {m : Nat} (hr : rightD n l e = true) (ht : toI n l e = some (a, m)) : a = n ∧ m < 18446744073709551616 ∧ makeR n (decDigits m) 0 = some (n, dv l, e) ∧ (n = true → 0 < m) := by
  have ht' := ht
  rw [toI] at ht'
  split at ht'
  · rename_i h
    simp only [Option.some.injEq, Prod.mk.injEq] at ht'
    obtain ⟨rfl, rfl⟩ := ht'
    obtain ⟨_, h0, h20, hb⟩ := h
    refine ⟨rfl, hb, ?_, ?_⟩
    · by_cases hz : l = [48]
      · subst hz
        rw [rightD_zero, Bool.and_eq_true, decide_eq_true_eq] at hr
        obtain ⟨rfl, hn⟩ := hr
        have hn2 : n = false := by cases n <;> simp_all
        subst hn2
        rw [show dv [48] * 10 ^ Int.toNat 0 = 0 from rfl, show decDigits 0 = [48] by rw [Lib.decDigits_one (by omega)]; rfl]
        rfl
      · obtain ⟨h1, h2, h3, _⟩ := right_num hr hz
        have h4 := dec_zeros (k := e.toNat) h2
        rw [h1] at h4
        rw [← h4]
        exact make_right (p := 0) (z := e.toNat) hr (by simp) (by
          rw [List.length_append, List.length_replicate]
          have := (right_parts hr).2.1
          omega) (by omega) (by omega) (by omega) (by omega)
    · rintro rfl
      by_cases hz : l = [48]
      · subst hz
        rw [right_neg0] at hr
        cases hr
      · obtain ⟨h1, h2, h3, _⟩ := right_num hr hz
        have : dv l ≠ 0 := by intro h5; rw [h5] at h2; exact h2 rfl
        exact Nat.mul_pos (Nat.pos_of_ne_zero this) (Nat.pow_pos (by decide))
  · cases ht'
theorem dec_right {n : Bool} {l : List UInt8} {e : Int} (h : rightD n l e = true) : decDigits (dv l) = l := by
  by_cases hz : l = [48]
  · subst hz
    rw [show dv [48] = 0 from rfl, Lib.decDigits_one (by omega)]
    rfl
  · exact (right_num h hz).1
theorem num_of {h : Hd} {a : Bool} {m : Nat} (e : h = ⟨3, false, h.neg, h.dig, h.exp, 0, 0, ⟨#[]⟩⟩) (hr : rightD h.neg h.dig.data.toList h.exp = true) (ht : toI h.neg h.dig.data.toList h.exp = some (a, m)) : h = numH h.neg m := by
  obtain ⟨_, _, hm, _⟩ := make_of hr ht
  rw [numH, hm]
  show h = ⟨3, false, h.neg, decB (dv h.dig.data.toList), h.exp, 0, 0, ⟨#[]⟩⟩
  rw [show decB (dv h.dig.data.toList) = h.dig from str_inj (by show (List.toArray (decDigits _)).toList = _; rw [dec_right hr])]
  exact e

/-! The plain item. -/
def flI (w : Int) : Nat := if w = 16 then 25 else if w = 32 then 26 else 27
/-- What a node has ahead of its list. -/
def ownB (h : Hd) (n : Nat) : List UInt8 :=
  if h.kind = 1 then headL 7 22
  else if h.kind = 2 then headL 7 (if h.b then 21 else 20)
  else if h.kind = 3 then (if tN (toI h.neg h.dig.data.toList h.exp) then headL 1 (tK (toI h.neg h.dig.data.toList h.exp) - 1) else headL 0 (tK (toI h.neg h.dig.data.toList h.exp)))
  else if h.kind = 4 then UInt8.ofNat (32 * 7 + flI h.w) :: bigL (h.w.toNat / 8) h.u
  else if h.kind = 5 then headL 3 h.s.size ++ h.s.data.toList
  else if h.kind = 6 then headL 2 h.s.size ++ h.s.data.toList
  else if h.kind = 7 then headL 4 n
  else if h.kind = 8 then headL 5 (n / 2)
  else if h.kind = 9 then headL 6 h.u
  else headL 7 h.u
def plB : Fo → List UInt8
  | .nil => []
  | .cons h k r => ownB h k.len ++ (plB k ++ plB r)
/-- A node that is right, and fits FormC. -/
def Gc : Hd → Fo → Prop := fun h k => (1 ≤ h.kind ∧ h.kind ≤ 10) ∧ okN h k = true ∧ h.u < 18446744073709551616 ∧ k.len ≤ 300 ∧ (h.kind = 3 → ∃ a m, toI h.neg h.dig.data.toList h.exp = some (a, m))
theorem rdL_wide {m k n a : Nat} (hm : m < 8) (hk : k < 32) (hn : nby k = some n) (h24 : ¬ k < 24) (ha : a < 256 ^ n) (t : List UInt8) : rdL (UInt8.ofNat (32 * m + k) :: (bigL n a ++ t)) = .ok (m, k, a, t) := by
  have hl := bigL_len n a
  rw [rdL_cons, s_first hm hk, show (32 * m + k) % 32 = k by omega, hn]
  simp only
  rw [if_neg (by rw [List.length_append, hl]; omega), List.take_left' hl, List.drop_left' hl, argW, if_neg h24, valQ_big, Nat.mod_eq_of_lt ha, show (32 * m + k) / 32 = m by omega]
/-- Is a list's count right? -/
def CntOk (p o : Bool) (n len : Nat) : Prop := if p = true then len + (if o = true then 1 else 0) = 2 * n else len = n
def ListBack (k : Fo) : Prop := ∀ (d n : Nat) (p o : Bool) (t : List UInt8), AllG Gc k → d + k.deep ≤ 17 → CntOk p o n k.len → listL FC tgC d (some n) p o (plB k ++ t) = .ok (k, t)
theorem item_back {h : Hd} {k : Fo} (IH : ListBack k) (d : Nat) (t : List UInt8) (hg : Gc h k) (hk : AllG Gc k) (hd : d + k.deep ≤ 16) : itC d (ownB h k.len ++ (plB k ++ t)) = .ok ((h, k), t) := by
  obtain ⟨⟨h1, h10⟩, ho, hu, hl, hi⟩ := hg
  have hkd : h.kind = 1 ∨ h.kind = 2 ∨ h.kind = 3 ∨ h.kind = 4 ∨ h.kind = 5 ∨ h.kind = 6 ∨ h.kind = 7 ∨ h.kind = 8 ∨ h.kind = 9 ∨ h.kind = 10 := by omega
  rw [itC, itemL_def, if_neg (by omega)]
  rcases hkd with e | e | e | e | e | e | e | e | e | e
  · obtain ⟨rfl, rfl⟩ := is_1 e ho
    rw [ownB, if_pos e, rdL_head (by decide) (by decide)]
    rfl
  · obtain ⟨hh, rfl⟩ := is_2 e ho
    rw [ownB, if_neg (by omega), if_pos e]
    cases hb : h.b with
    | true =>
      rw [hb] at hh
      rw [if_pos rfl, rdL_head (by decide) (by decide), hh]
      rfl
    | false =>
      rw [hb] at hh
      rw [if_neg (by decide), rdL_head (by decide) (by decide), hh]
      rfl
  · obtain ⟨⟨hh, rfl⟩, hr⟩ := is_3 e ho
    obtain ⟨a, m, ht⟩ := hi e
    obtain ⟨rfl, hm, _, hp⟩ := make_of hr ht
    have hn := num_of hh hr ht
    by_cases hb : h.neg = true
    · have hp := hp hb
      have hi := hinfo_le (m - 1)
      rw [hb] at hn
      have ho3 : ownB h Fo.nil.len = headL 1 (m - 1) := by
        rw [ownB, if_neg (by omega), if_neg (by omega), if_pos e, ht]
        simp [tN, tK, hb]
      rw [ho3, rdL_head (by decide) (by omega)]
      simp only
      rw [if_neg (by omega), if_neg (by decide), if_pos trivial]
      show Except.ok ((numH true (m - 1 + 1), Fo.nil), _) = _
      rw [show m - 1 + 1 = m by omega, ← hn]
      rfl
    · have hi := hinfo_le m
      have hb2 : h.neg = false := by simpa using hb
      rw [hb2] at hn
      have ho3 : ownB h Fo.nil.len = headL 0 m := by
        rw [ownB, if_neg (by omega), if_neg (by omega), if_pos e, ht]
        simp [tN, tK, hb2]
      rw [ho3, rdL_head (by decide) hm]
      simp only
      rw [if_neg (by omega), if_pos trivial]
      show Except.ok ((numH false m, Fo.nil), _) = _
      rw [← hn]
      rfl
  · obtain ⟨⟨hh, rfl⟩, hs⟩ := is_4 e ho
    have hw : (h.w = 16 ∧ h.u < 65536) ∨ (h.w = 32 ∧ h.u < 4294967296) ∨ h.w = 64 := by
      unfold widO at hs
      repeat' split at hs
      all_goals first
        | (exact .inl ⟨by assumption, by assumption⟩)
        | (exact .inr (.inl ⟨by assumption, by assumption⟩))
        | (exact .inr (.inr (by assumption)))
        | (cases hs; done)
    rcases hw with ⟨hw, hb⟩ | ⟨hw, hb⟩ | hw
    · rw [hw] at hh
      have ho5 : ownB h Fo.nil.len = UInt8.ofNat (32 * 7 + 25) :: bigL 2 h.u := by
        rw [ownB, if_neg (by omega), if_neg (by omega), if_neg (by omega), if_pos e, hw]
        rfl
      have ho6 : FC.oth 25 h.u = some (floH 16 h.u) := rfl
      rw [ho5, List.cons_append, rdL_wide (by decide) (by decide) rfl (by decide) (by omega)]
      simp only
      rw [if_neg (by decide), if_neg (by decide), if_neg (by decide), if_neg (by decide), if_neg (by decide), if_neg (by decide), if_neg (by decide), ho6, ← hh]
      rfl
    · rw [hw] at hh
      have ho5 : ownB h Fo.nil.len = UInt8.ofNat (32 * 7 + 26) :: bigL 4 h.u := by
        rw [ownB, if_neg (by omega), if_neg (by omega), if_neg (by omega), if_pos e, hw]
        rfl
      have ho6 : FC.oth 26 h.u = some (floH 32 h.u) := rfl
      rw [ho5, List.cons_append, rdL_wide (by decide) (by decide) rfl (by decide) (by omega)]
      simp only
      rw [if_neg (by decide), if_neg (by decide), if_neg (by decide), if_neg (by decide), if_neg (by decide), if_neg (by decide), if_neg (by decide), ho6, ← hh]
      rfl
    · rw [hw] at hh
      have ho5 : ownB h Fo.nil.len = UInt8.ofNat (32 * 7 + 27) :: bigL 8 h.u := by
        rw [ownB, if_neg (by omega), if_neg (by omega), if_neg (by omega), if_pos e, hw]
        rfl
      have ho6 : FC.oth 27 h.u = some (floH 64 h.u) := rfl
      rw [ho5, List.cons_append, rdL_wide (by decide) (by decide) rfl (by decide) (by omega)]
      simp only
      rw [if_neg (by decide), if_neg (by decide), if_neg (by decide), if_neg (by decide), if_neg (by decide), if_neg (by decide), if_neg (by decide), ho6, ← hh]
      rfl
  · obtain ⟨⟨hh, rfl⟩, hs⟩ := is_5 e ho
    have hi := hinfo_le h.s.size
    have hsl : h.s.data.toList.length = h.s.size := Array.length_toList
    rw [ownB, if_neg (by omega), if_neg (by omega), if_neg (by omega), if_neg (by omega), if_pos e, List.append_assoc, rdL_head (by decide) (by omega)]
    simp only
    rw [if_neg (by omega), if_neg (by decide), if_neg (by decide), if_pos (.inr trivial), if_neg (by omega), if_neg (by rw [List.length_append]; omega), List.take_left' hsl, List.drop_left' hsl]
    show Except.ok ((strH 3 h.s.data.toList, Fo.nil), _) = _
    rw [← hh]
    rfl
  · obtain ⟨⟨hh, rfl⟩, hs⟩ := is_6 e ho
    have hi := hinfo_le h.s.size
    have hsl : h.s.data.toList.length = h.s.size := Array.length_toList
    rw [ownB, if_neg (by omega), if_neg (by omega), if_neg (by omega), if_neg (by omega), if_neg (by omega), if_pos e, List.append_assoc, rdL_head (by decide) (by omega)]
    simp only
    rw [if_neg (by omega), if_neg (by decide), if_neg (by decide), if_pos (.inl trivial), if_neg (by omega), if_neg (by rw [List.length_append]; omega), List.take_left' hsl, List.drop_left' hsl]
    show Except.ok ((strH 2 h.s.data.toList, Fo.nil), _) = _
    rw [← hh]
    rfl
  · have hh := is_7 e ho
    have hi := hinfo_le k.len
    rw [ownB, if_neg (by omega), if_neg (by omega), if_neg (by omega), if_neg (by omega), if_neg (by omega), if_neg (by omega), if_pos e, rdL_head (by decide) (by omega)]
    simp only
    rw [if_neg (by omega), if_neg (by decide), if_neg (by decide), if_neg (by decide), if_pos trivial, if_neg (by omega), IH (d + 1) k.len false false t hk (by omega) rfl, hh]
  · obtain ⟨hh, h2⟩ := is_8 e ho
    have hi := hinfo_le (k.len / 2)
    rw [ownB, if_neg (by omega), if_neg (by omega), if_neg (by omega), if_neg (by omega), if_neg (by omega), if_neg (by omega), if_neg (by omega), if_pos e, rdL_head (by decide) (by omega)]
    simp only
    rw [if_neg (by omega), if_neg (by decide), if_neg (by decide), if_neg (by decide), if_neg (by decide), if_pos trivial, if_neg (by omega), IH (d + 1) (k.len / 2) true false t hk (by omega) (by show _ + 0 = _; omega), hh]
  · obtain ⟨hh, h2⟩ := is_9 e ho
    have hi := hinfo_le h.u
    rw [ownB, if_neg (by omega), if_neg (by omega), if_neg (by omega), if_neg (by omega), if_neg (by omega), if_neg (by omega), if_neg (by omega), if_neg (by omega), if_pos e, rdL_head (by decide) hu]
    simp only
    rw [if_neg (by omega), if_neg (by decide), if_neg (by decide), if_neg (by decide), if_neg (by decide), if_neg (by decide), if_pos trivial]
    have hq := IH (d + 1) 1 false false t hk (by omega) h2
    rw [listL_def, if_neg (by decide), if_neg (by rintro ⟨h, _⟩; cases h)] at hq
    cases hx : itemL FC tgC (d + 1) (plB k ++ t) with
    | error e => rw [hx] at hq; cases hq
    | ok y =>
      obtain ⟨⟨h', f⟩, r⟩ := y
      rw [hx] at hq
      simp only [less] at hq
      rw [listL_def, if_pos (by rfl)] at hq
      cases hq
      simp only
      rw [← hh]
  · obtain ⟨⟨hh, rfl⟩, hs⟩ := is_10 e ho
    rw [ownB, if_neg (by omega), if_neg (by omega), if_neg (by omega), if_neg (by omega), if_neg (by omega), if_neg (by omega), if_neg (by omega), if_neg (by omega), if_neg (by omega), rdL_head (by decide) hu]
    have hi := hinfo_le h.u
    simp only
    rw [if_neg (by omega), if_neg (by decide), if_neg (by decide), if_neg (by decide), if_neg (by decide), if_neg (by decide), if_neg (by decide)]
    have ho : FC.oth (hinfo h.u) h.u = some (simH h.u) := by
      show othH _ _ = _
      simp only [simpleN, Bool.or_eq_true, Bool.and_eq_true, decide_eq_true_eq] at hs
      rcases hs with (hs | hs) | hs
      · rw [hinfo, if_pos (by omega), othH, if_neg (by omega), if_neg (by omega), if_neg (by omega), if_neg (by omega)]
      · rw [hs]; rfl
      · rw [hinfo, if_neg (by omega), if_pos (by omega), othH, if_neg (by omega), if_neg (by omega), if_neg (by omega), if_neg (by omega)]
    rw [ho, ← hh]
    rfl
theorem list_back : ∀ (k : Fo), ListBack k
  | .nil => fun d n p o t _ _ hc => by
    have hn : n = 0 := by
      unfold CntOk at hc
      rw [Fo.len] at hc
      repeat' split at hc
      all_goals omega
    rw [listL_def, if_pos (by rw [hn])]
    rfl
  | .cons h k r => fun d n p o t hG hd hc => by
    have IHk := list_back k
    have IHr := list_back r
    obtain ⟨g1, g2, g3⟩ := hG
    simp only [Fo.deep] at hd
    have hn : n ≠ 0 := by
      unfold CntOk at hc
      rw [Fo.len] at hc
      repeat' split at hc
      all_goals omega
    rw [listL_def, if_neg (by simpa using hn), if_neg (by rintro ⟨h, _⟩; cases h), plB, List.append_assoc, List.append_assoc]
    have h1 := item_back (h := h) IHk d (plB r ++ t) g1 g2 (by omega)
    rw [itC] at h1
    rw [h1]
    simp only
    have hls : ∃ n', less (some n) p o = some n' ∧ CntOk p (!o) n' r.len := by
      unfold CntOk at hc ⊢
      rw [Fo.len] at hc
      unfold less
      cases p <;> cases o <;> simp at hc ⊢ <;> omega
    obtain ⟨n', e1, e2⟩ := hls
    rw [e1, IHr d n' p (!o) t g3 (by omega) e2]
/-- What is written is read as that tree, whatever is behind it. -/
theorem item_plain {h : Hd} {k : Fo} (hg : AllG Gc (.cons h k .nil)) (hd : k.deep + 1 ≤ 16) (t : List UInt8) : itC 1 (plB (.cons h k .nil) ++ t) = .ok ((h, k), t) := by
  rw [plB, plB, List.append_nil, List.append_assoc]
  exact item_back (list_back k) 1 t hg.1 hg.2.1 (by omega)
end Go.Proofs.YtppapkpceejnkaaGreatDoor
namespace Go.Proofs.YtppapkpceejnkaaGreatDoor
open Go.RowKit

/-- A tag's number, a float's bits, as memory holds them. -/
def Gu : Hd → Fo → Prop := fun h _ => h.u < 18446744073709551616
theorem gc_of {h : Hd} {k : Fo} (h1 : okN h k = true) (h2 : fitN (frmOf 2) h k = true) (h3 : 1 ≤ h.kind ∧ h.kind ≤ 11) (hl : k.len ≤ 300) (hu : h.u < 18446744073709551616) : Gc h k := by
  rw [fitN, Bool.and_eq_true] at h2
  refine ⟨⟨h3.1, ?_⟩, h1, hu, hl, fun e => ?_⟩
  · have h4 : h.kind ≠ 11 := by
      intro e
      have h5 := h2.1
      rw [e] at h5
      exact absurd h5 (by decide)
    omega
  · have h4 := h2.2
    rw [if_pos e, fitNum] at h4
    have h5 : (frmOf 2).whole = true := rfl
    rw [h5] at h4
    simp only [Bool.not_true, Bool.false_or, Bool.and_eq_true] at h4
    obtain ⟨⟨a, m⟩, hx⟩ := Option.isSome_iff_exists.1 h4.1
    exact ⟨a, m, hx⟩
theorem gc_all : ∀ (f : Fo), okAll okN f = true → fitAll (frmOf 2) f = true → f.cnt ≤ 300 → AllG Gu f → AllG Gc f
  | .nil, _, _, _, _ => trivial
  | .cons h k r, h1, h2, h3, ⟨u1, u2, u3⟩ => by
    rw [okAll] at h1
    rw [fitAll] at h2
    simp only [Bool.and_eq_true, decide_eq_true_eq] at h1 h2
    rw [Fo.cnt] at h3
    have := len_cnt k
    exact ⟨gc_of h1.1.1.2 h2.1.1 h1.1.1.1 (by omega) u1, gc_all k h1.1.2 h2.1.2 (by omega) u2, gc_all r h1.2 h2.2 (by omega) u3⟩
theorem chk_gc {h : Hd} {k : Fo} (e : chk 2 h k = 0) (hu : AllG Gu (.cons h k .nil)) : AllG Gc (.cons h k .nil) ∧ 1 + k.cnt ≤ 300 ∧ k.deep + 1 ≤ 16 := by
  unfold chk at e
  split at e
  · rename_i h1
    split at e
    · rename_i h2
      rw [rgt, rightR, Bool.and_eq_true, decide_eq_true_eq] at h1
      exact ⟨gc_all _ h1.2 h2 (by rw [Fo.cnt]; simp only [Fo.cnt]; omega) hu, h1.1⟩
    · cases e
  · cases e
theorem gu_lies {P : Nat → Prop} {W : World} : ∀ {f : Fo} {B o : Nat}, Lies P W f B o → AllG Gu f
  | .nil, _, _, _ => trivial
  | .cons h k r, _, _, ⟨⟨v, _, hk⟩, hu, hr⟩ => ⟨hu, (by
      rcases hk with ⟨_, _, _, rfl⟩ | ⟨b, o, c, _, _, _, _, _, hl⟩
      · trivial
      · exact gu_lies hl), gu_lies hr⟩
theorem gu_kd {P : Nat → Prop} {W : World} {v : Value} {k : Fo} (h : Kd P W v k) : AllG Gu k := by
  rcases h with ⟨_, _, _, rfl⟩ | ⟨b, o, c, _, _, _, _, _, hl⟩
  · trivial
  · exact gu_lies hl
theorem gu_one {P : Nat → Prop} {W : World} {v : Value} {h : Hd} {k : Fo} (hk : Kd P W v k) (hu : h.u < 18446744073709551616) : AllG Gu (.cons h k .nil) := ⟨hu, gu_kd hk, trivial⟩

/-- The plain item of a node. -/
def itB (h : Hd) (k : Fo) : List UInt8 := plB (.cons h k .nil)
theorem itB_eq (h : Hd) (k : Fo) : itB h k = ownB h k.len ++ plB k := by rw [itB, plB, plB, List.append_nil]
theorem it_back {h : Hd} {k : Fo} (e : chk 2 h k = 0) (hu : AllG Gu (.cons h k .nil)) (t : List UInt8) : itC 1 (itB h k ++ t) = .ok ((h, k), t) :=
  have h1 := chk_gc e hu
  item_plain h1.1 h1.2.2 t
theorem it_begins {h h2 : Hd} {k k2 : Fo} {t : List UInt8} (e : chk 2 h k = 0) (hu : AllG Gu (.cons h k .nil)) (e2 : chk 2 h2 k2 = 0) (hu2 : AllG Gu (.cons h2 k2 .nil)) (hb : itB h k ++ t = itB h2 k2) : (h = h2 ∧ k = k2) ∧ t = [] := by
  have h1 := it_back e hu t
  have h3 := it_back e2 hu2 []
  rw [List.append_nil, ← hb, h1] at h3
  simp only [Except.ok.injEq, Prod.mk.injEq] at h3
  exact h3
theorem ownB_pos (h : Hd) (n : Nat) : 0 < (ownB h n).length := by
  unfold ownB
  repeat' split
  all_goals simp [headL]
theorem itB_pos (h : Hd) (k : Fo) : 0 < (itB h k).length := by
  rw [itB_eq, List.length_append]
  have := ownB_pos h k.len
  omega
end Go.Proofs.YtppapkpceejnkaaGreatDoor
namespace Go.Proofs.YtppapkpceejnkaaGreatDoor
open Go.RowKit
open Go.Lib (decDigits nDigits)

theorem hext_fit {a n : Nat} (h : a < 256 ^ n) (hn : n = 1 ∨ n = 2 ∨ n = 4 ∨ n = 8) : hext a ≤ n := by
  unfold hext
  rcases hn with rfl | rfl | rfl | rfl
  all_goals repeat' split
  all_goals omega
theorem rdL_size {l : List UInt8} {j k a : Nat} {r : List UInt8} (h : rdL l = .ok (j, k, a, r)) : ∃ n, nby k = some n ∧ 1 + n + r.length = l.length ∧ (k ≠ 31 → hext a ≤ n) := by
  cases l with
  | nil => cases h
  | cons c s =>
    rw [rdL_cons] at h
    cases hn : nby (c.toNat % 32) with
    | none => rw [hn] at h; cases h
    | some n =>
      rw [hn] at h
      simp only at h
      split at h
      · cases h
      · rename_i hs
        cases h
        refine ⟨n, hn, by rw [List.length_cons, List.length_drop]; omega, fun h31 => ?_⟩
        rw [argW]
        split
        · rename_i h24
          rw [hext, if_pos h24]
          exact Nat.zero_le _
        · rename_i h24
          have hv := valQ_lt (s.take n)
          rw [List.length_take, Nat.min_eq_left (by omega)] at hv
          refine hext_fit hv ?_
          unfold nby at hn
          repeat' split at hn
          all_goals first
            | omega
            | (cases hn; simp; done)
            | (cases hn; done)
theorem chunks_size {m : Nat} : ∀ (n : Nat) (l t q : List UInt8), chunksF n m l = .ok (t, q) → t.length + q.length + 1 ≤ l.length ∧ (t.length ≠ 0 → t.length + q.length + 2 ≤ l.length)
  | 0, _, _, _, h => by cases h
  | n + 1, l, t, q, h => by
    rw [chunksF] at h
    split at h
    · rename_i he
      cases h
      cases l with
      | nil => cases he
      | cons c s =>
        simp only [List.tail_cons, List.length_cons, List.length_nil]
        exact ⟨by omega, fun h => absurd rfl h⟩
    · cases hr : rdL l with
      | error e => rw [hr] at h; cases h
      | ok y =>
        obtain ⟨j, k, a, s⟩ := y
        have hl := rdL_len hr
        rw [hr] at h
        simp only at h
        split at h
        · cases h
        split at h
        · cases h
        cases hc : chunksF n m (s.drop a) with
        | error e => rw [hc] at h; cases h
        | ok z =>
          obtain ⟨t', q'⟩ := z
          have ih := (chunks_size n _ _ _ hc).1
          rw [hc] at h
          cases h
          rw [List.length_drop] at ih
          rw [List.length_append, List.length_take]
          omega
/-- How many lists of 256 nodes and more. -/
def exF : Fo → Nat
  | .nil => 0
  | .cons _ k r => (if 256 ≤ k.len then 1 else 0) + exF k + exF r
theorem exF_cnt : ∀ f : Fo, 256 * exF f + f.len ≤ f.cnt
  | .nil => Nat.le_refl _
  | .cons h k r => by
    have h1 := exF_cnt k
    have h2 := exF_cnt r
    simp only [exF, Fo.len, Fo.cnt]
    split <;> omega
theorem num_own (n : Bool) (a : Nat) (ha : a < 18446744073709551616) : toI (numH n a).neg (numH n a).dig.data.toList (numH n a).exp = some (n && decide (0 < a), a) := by
  obtain ⟨m, b, e, h1, h2, h3, _⟩ := whole (n := n) ha
  rw [numH, h1]
  show toI m (List.toArray (decDigits b)).toList e = _
  rw [h3, h2]
theorem num_top : toI (numH true 18446744073709551616).neg (numH true 18446744073709551616).dig.data.toList (numH true 18446744073709551616).exp = none := by kernel_rfl
theorem less_none {c : Option Nat} {p o : Bool} : less c p o = none ↔ c = none := by
  unfold less
  split <;> cases c <;> simp
theorem list_cnt {F : Lf} {tg : Nat → Hd} : ∀ (n d a : Nat) (p o : Bool) (l : List UInt8) (f : Fo) (r : List UInt8), (p = true → o = true → 0 < a) → listF F tg n d (some a) p o l = .ok (f, r) → CntOk p o a f.len
  | 0, _, _, _, _, _, _, _, _, h => by rw [listF] at h; cases h
  | n + 1, d, a, p, o, l, f, r, hpo, h => by
    rw [listF] at h
    split at h
    · rename_i h0
      cases h
      have : a = 0 := by simpa using h0
      unfold CntOk
      cases p <;> cases o <;> simp_all [Fo.len]
    rename_i h0
    have ha : a ≠ 0 := by simpa using h0
    split at h
    · rename_i h1; cases h1.1
    cases hc : itemF F tg n d l with
    | error e => rw [hc] at h; cases h
    | ok z =>
      obtain ⟨⟨h0, f0⟩, s⟩ := z
      rw [hc] at h
      simp only at h
      have hls : ∃ a', less (some a) p o = some a' ∧ (p = false → a' = a - 1) ∧ (p = true → o = true → a' = a - 1) ∧ (p = true → o = false → a' = a) := by
        unfold less
        cases p <;> cases o <;> simp
      obtain ⟨a', e1, e2, e3, e4⟩ := hls
      rw [e1] at h
      cases hg : listF F tg n d (some a') p (!o) s with
      | error e => rw [hg] at h; cases h
      | ok y =>
        obtain ⟨g, q0⟩ := y
        have ih := list_cnt n d a' p (!o) s g q0 (fun hp ho => by
          have : o = false := by cases o <;> simp_all
          rw [e4 hp this]; omega) hg
        rw [hg] at h
        cases h
        unfold CntOk at ih ⊢
        rw [Fo.len]
        cases p <;> cases o <;> simp_all <;> omega
theorem own_len_3 {n : Bool} {a : Nat} (ha : a < 18446744073709551616) (x : Nat) : (ownB (numH n a) x).length = 1 + hext (if n && decide (0 < a) then a - 1 else a) := by
  have h := num_own n a ha
  have hk : (numH n a).kind = 3 := rfl
  rw [ownB, if_neg (by rw [hk]; decide), if_neg (by rw [hk]; decide), if_pos hk, h]
  show (if (n && decide (0 < a)) = true then headL 1 (a - 1) else headL 0 a).length = _
  split <;> rw [headL_len]
theorem str_own (j : Nat) (t : List UInt8) (x : Nat) : (ownB (strH j t) x).length = 1 + hext t.length + t.length := by
  have hs : (strH j t).s.size = t.length := by show (List.toArray t).size = _; simp
  have ht : (strH j t).s.data.toList = t := by show (List.toArray t).toList = _; simp
  by_cases h : j = 2
  · have hk : (strH j t).kind = 6 := by rw [strH, if_pos h]
    rw [ownB, if_neg (by rw [hk]; decide), if_neg (by rw [hk]; decide), if_neg (by rw [hk]; decide), if_neg (by rw [hk]; decide), if_neg (by rw [hk]; decide), if_pos hk, List.length_append, headL_len, hs, ht]
  · have hk : (strH j t).kind = 5 := by rw [strH, if_neg h]
    rw [ownB, if_neg (by rw [hk]; decide), if_neg (by rw [hk]; decide), if_neg (by rw [hk]; decide), if_neg (by rw [hk]; decide), if_pos hk, List.length_append, headL_len, hs, ht]
theorem flo_own (w : Int) (a x : Nat) : (ownB (floH w a) x).length = 1 + w.toNat / 8 := by
  have hk : (floH w a).kind = 4 := rfl
  rw [ownB, if_neg (by rw [hk]; decide), if_neg (by rw [hk]; decide), if_neg (by rw [hk]; decide), if_pos hk, List.length_cons, bigL_len]
  show w.toNat / 8 + 1 = _
  omega
theorem oth_own {k a n x : Nat} {h : Hd} (hn : nby k = some n) (hx : hext a ≤ n) (ho : othH k a = some h) : (ownB h x).length ≤ 1 + n := by
  unfold othH at ho
  split at ho
  · cases ho
  split at ho
  · rename_i h1 h2
    cases ho
    have hk : (boolH (k == 21)).kind = 2 := rfl
    rw [ownB, if_neg (by rw [hk]; decide), if_pos hk, headL_len]
    split <;> (show 1 + 0 ≤ _; omega)
  split at ho
  · cases ho
    show (headL 7 22).length ≤ _
    rw [headL_len]
    show 1 + 0 ≤ _; omega
  split at ho
  · rename_i h1
    cases ho
    have hk : k = 25 ∨ k = 26 ∨ k = 27 := by omega
    rcases hk with rfl | rfl | rfl
    · cases hn
      have := flo_own 16 a x
      show (ownB (floH 16 a) x).length ≤ _
      rw [this]
      decide
    · cases hn
      have := flo_own 32 a x
      show (ownB (floH 32 a) x).length ≤ _
      rw [this]
      decide
    · cases hn
      have := flo_own 64 a x
      show (ownB (floH 64 a) x).length ≤ _
      rw [this]
      decide
  · cases ho
    show (headL 7 a).length ≤ _
    rw [headL_len]
    omega
theorem rd_fit {l : List UInt8} {j k a : Nat} {r : List UInt8} (h : rdL l = .ok (j, k, a, r)) : a < 18446744073709551616 := (rdL_lt h).2.2.1
theorem both_size : ∀ n, (∀ (d : Nat) (l : List UInt8) (h : Hd) (k : Fo) (r : List UInt8), itemF FC tgC n d l = .ok ((h, k), r) → Gc h k → AllG Gc k → (ownB h k.len).length + (plB k).length + r.length ≤ l.length + (if 256 ≤ k.len then 1 else 0) + exF k) ∧
    (∀ (d : Nat) (c : Option Nat) (p o : Bool) (l : List UInt8) (f : Fo) (r : List UInt8), listF FC tgC n d c p o l = .ok (f, r) → AllG Gc f → (plB f).length + r.length + (if c = none then 1 else 0) ≤ l.length + exF f)
  | 0 => ⟨fun _ _ _ _ _ h => (by rw [itemF] at h; cases h), fun _ _ _ _ _ _ _ h => (by rw [listF] at h; cases h)⟩
  | n + 1 => by
    have ih := both_size n
    refine ⟨fun d l h k r hi hg hG => ?_, fun d c p o l f r hi hG => ?_⟩
    · rw [itemF] at hi
      split at hi
      · cases hi
      cases hr : rdL l with
      | error e => rw [hr] at hi; cases hi
      | ok y =>
        obtain ⟨j, kk, a, s⟩ := y
        obtain ⟨nb, hn, hsz, hx⟩ := rdL_size hr
        have ha := rd_fit hr
        rw [hr] at hi
        simp only at hi
        have e0 : (plB Fo.nil).length = 0 := rfl
        have e1 : exF Fo.nil = 0 := rfl
        have e2 : Fo.nil.len = 0 := rfl
        split at hi
        · cases hi
        rename_i hno
        split at hi
        · cases hi
          have h31 := hx (by omega)
          have ho : (ownB (FC.num a) Fo.nil.len).length = 1 + hext a := own_len_3 (n := false) ha _
          rw [ho, e0, e2]
          simp only [if_neg (show ¬ 256 ≤ 0 by decide)]
          omega
        split at hi
        · cases hi
          have h31 := hx (by omega)
          have hlt : a + 1 < 18446744073709551616 := by
            rcases Nat.lt_or_ge (a + 1) 18446744073709551616 with h1 | h1
            · exact h1
            · have : a + 1 = 18446744073709551616 := by omega
              obtain ⟨b, m, hb⟩ := hg.2.2.2.2 rfl
              have h5 : toI (numH true (a + 1)).neg (numH true (a + 1)).dig.data.toList (numH true (a + 1)).exp = some (b, m) := hb
              rw [this, num_top] at h5
              cases h5
          have ho : (ownB (FC.neg a) Fo.nil.len).length = 1 + hext a := (own_len_3 (n := true) hlt _).trans (by simp)
          rw [ho, e0, e2]
          simp only [if_neg (show ¬ 256 ≤ 0 by decide)]
          omega
        split at hi
        · split at hi
          · cases hc : chunksF (s.length + 1) j s with
            | error e => rw [hc] at hi; cases hi
            | ok z =>
              obtain ⟨t0, q0⟩ := z
              have hc2 := chunks_size _ _ _ _ hc
              rw [hc] at hi
              cases hi
              have ho : (ownB (FC.str j t0) Fo.nil.len).length = 1 + hext t0.length + t0.length := str_own j t0 _
              have h400 : t0.length ≤ 400 := by
                have hs : (strH j t0).s.size = t0.length := by show (List.toArray t0).size = _; simp
                rw [← hs]
                have hok : okN (strH j t0) .nil = true := hg.2.1
                by_cases hj : j = 2
                · exact (is_6 (show (strH j t0).kind = 6 by rw [strH, if_pos hj]) hok).2
                · exact (is_5 (show (strH j t0).kind = 5 by rw [strH, if_neg hj]) hok).2
              have hx0 : hext t0.length ≤ 2 ∧ (t0.length = 0 → hext t0.length = 0) := by
                unfold hext
                repeat' split
                all_goals omega
              rw [ho, e0, e2]
              simp only [if_neg (show ¬ 256 ≤ 0 by decide)]
              omega
          · rename_i hk31
            split at hi
            · cases hi
            · rename_i hle
              cases hi
              have h31 := hx hk31
              have ho : (ownB (FC.str j (s.take a)) Fo.nil.len).length = 1 + hext (s.take a).length + (s.take a).length := str_own j _ _
              rw [ho, e0, e2, List.length_take, Nat.min_eq_left (by omega), List.length_drop]
              simp only [if_neg (show ¬ 256 ≤ 0 by decide)]
              omega
        split at hi
        · cases hc : listF FC tgC n (d + 1) (if kk = 31 then none else some a) false false s with
          | error e => rw [hc] at hi; cases hi
          | ok z =>
            obtain ⟨f, q0⟩ := z
            rw [hc] at hi
            cases hi
            have h2 := ih.2 _ _ _ _ _ _ _ hc hG
            have hl : k.len ≤ 300 := hg.2.2.2.1
            have ho : (ownB arrC k.len).length = 1 + hext k.len := headL_len 4 k.len
            rw [ho]
            by_cases h31 : kk = 31
            · rw [if_pos h31, if_pos rfl] at h2
              have hx0 : hext k.len ≤ 1 + (if 256 ≤ k.len then 1 else 0) := by
                unfold hext
                repeat' split
                all_goals omega
              omega
            · rw [if_neg h31] at hc
              have hcn : k.len = a := list_cnt _ _ _ _ _ _ _ _ (fun h => by cases h) hc
              have := hx h31
              rw [hcn]
              omega
        split at hi
        · cases hc : listF FC tgC n (d + 1) (if kk = 31 then none else some a) true false s with
          | error e => rw [hc] at hi; cases hi
          | ok z =>
            obtain ⟨f, q0⟩ := z
            rw [hc] at hi
            cases hi
            have h2 := ih.2 _ _ _ _ _ _ _ hc hG
            have hl : k.len ≤ 300 := hg.2.2.2.1
            have ho : (ownB mapC k.len).length = 1 + hext (k.len / 2) := headL_len 5 (k.len / 2)
            rw [ho]
            by_cases h31 : kk = 31
            · rw [if_pos h31, if_pos rfl] at h2
              have hx0 : hext (k.len / 2) ≤ 1 := by
                unfold hext
                repeat' split
                all_goals omega
              omega
            · rw [if_neg h31] at hc
              have hcn : k.len + 0 = 2 * a := list_cnt _ _ _ _ _ _ _ _ (fun _ h => by cases h) hc
              have := hx h31
              rw [show k.len / 2 = a by omega]
              omega
        split at hi
        · cases hc : itemF FC tgC n (d + 1) s with
          | error e => rw [hc] at hi; cases hi
          | ok z =>
            obtain ⟨⟨h0, f⟩, q0⟩ := z
            rw [hc] at hi
            cases hi
            have h2 := ih.1 _ _ _ _ _ hc hG.1 hG.2.1
            have h31 := hx (by omega)
            have ho : (ownB (tgC a) (Fo.cons h0 f .nil).len).length = 1 + hext a := headL_len 6 a
            have hp : (plB (Fo.cons h0 f .nil)).length = (ownB h0 f.len).length + (plB f).length := by rw [plB, plB, List.append_nil, List.length_append]
            have hxx : exF (Fo.cons h0 f .nil) = (if 256 ≤ f.len then 1 else 0) + exF f := by rw [exF, exF, Nat.add_zero]
            rw [ho, hp, hxx]
            omega
        cases ho : FC.oth kk a with
        | none => rw [ho] at hi; cases hi
        | some h0 =>
          rw [ho] at hi
          cases hi
          have h31 := hx (by
            intro e
            rw [e, hFC] at ho
            cases ho)
          have := oth_own (x := Fo.nil.len) hn h31 ho
          rw [e0]
          omega
    · rw [listF] at hi
      split at hi
      · rename_i h0
        cases hi
        rw [h0, if_neg (by simp), plB, exF, List.length_nil]
        omega
      split at hi
      · rename_i h0 h1
        cases hi
        cases l with
        | nil => cases h1.2.1
        | cons c' s =>
          rw [if_pos h1.1, plB, exF, List.length_nil, List.tail_cons, List.length_cons]
          omega
      cases hc : itemF FC tgC n d l with
      | error e => rw [hc] at hi; cases hi
      | ok z =>
        obtain ⟨⟨h0, f0⟩, s⟩ := z
        rw [hc] at hi
        simp only at hi
        cases hg : listF FC tgC n d (less c p o) p (!o) s with
        | error e => rw [hg] at hi; cases hi
        | ok y =>
          obtain ⟨g, q0⟩ := y
          rw [hg] at hi
          cases hi
          have i1 := ih.1 _ _ _ _ _ hc hG.1 hG.2.1
          have i2 := ih.2 _ _ _ _ _ _ _ hg hG.2.2
          have hnn : (less c p o = none) = (c = none) := propext less_none
          simp only [hnn] at i2
          rw [plB, exF, List.length_append, List.length_append]
          omega
/-- What is read, and written, has no more bytes, but for one. -/
theorem size_back {l : List UInt8} {h : Hd} {k : Fo} (hr : itC 1 l = .ok ((h, k), [])) (e : chk 2 h k = 0) (hu : AllG Gu (.cons h k .nil)) : (itB h k).length ≤ l.length ∨ (256 < 1 + k.cnt ∧ (itB h k).length = l.length + 1) := by
  obtain ⟨h1, h2, _⟩ := chk_gc e hu
  have h3 := (both_size _).1 _ _ _ _ _ hr h1.1 h1.2.1
  have h4 := exF_cnt (.cons h k .nil)
  simp only [exF, Fo.len, Fo.cnt] at h4
  rw [itB_eq, List.length_append]
  rw [List.length_nil] at h3
  by_cases hk : 256 ≤ k.len
  · rw [if_pos hk] at h3 h4
    omega
  · rw [if_neg hk] at h3 h4
    omega
end Go.Proofs.YtppapkpceejnkaaGreatDoor
