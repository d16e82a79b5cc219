/- Plain items: what they are, and that they are read as their tree (plain mathematics; it names no function of the program). Plain items of trees that fit; different trees' are different, and none begins another one (plain mathematics). -/
import Derived.Test.YtppapkpceejnkaaGreatDoorKd
import Derived.Test.YtppapkpceejnkaaGreatDoorKe
import Derived.Test.YtppapkpceejnkaaGreatDoorK21
import Derived.Test.YtppapkpceejnkaaGreatDoorK2
namespace Go.Proofs.YtppapkpceejnkaaGreatDoor
open Go.RowKit
open Go.Lib (decDigits nDigits)

/-! What makes a node right. -/
theorem bq_eq {a b : ByteArray} (h : a.toList = b.toList) : a = b := str_inj (by rw [← Lib.toList_data, ← Lib.toList_data]; exact h)
theorem sm_hd {h h2 : Hd} (e : sameH h h2 = true) : h = h2 := by
  simp only [sameH, Bool.and_eq_true, beq_iff_eq, decide_eq_true_eq] at e
  obtain ⟨⟨⟨⟨⟨h1, h2'⟩, ⟨h3, h4⟩, h5⟩, h6⟩, h7⟩, h8⟩ := e
  cases h
  cases h2
  simp only at h1 h2' h3 h4 h5 h6 h7 h8
  rw [h1, h2', h3, bq_eq h4, h5, Int.ofNat.inj h6, h7, bq_eq h8]
theorem fo_none {k : Fo} (h : (k.len : Int) = 0) : k = .nil := by
  cases k with
  | nil => rfl
  | cons a b c => rw [Fo.len] at h; omega
section
variable {h : Hd} {k : Fo}
theorem is_1 (e : h.kind = 1) (ho : okN h k = true) : h = nullH ∧ k = .nil := by
  rw [okN, if_pos e, o_isNull, j_isNull, Bool.and_eq_true, beq_iff_eq] at ho
  exact ⟨(sm_hd ho.1).trans (by rw [e]; rfl), fo_none ho.2⟩
theorem is_2 (e : h.kind = 2) (ho : okN h k = true) : h = boolH h.b ∧ k = .nil := by
  rw [okN, if_neg (by omega), if_pos e, o_isBool, j_isBool, Bool.and_eq_true, beq_iff_eq] at ho
  exact ⟨(sm_hd ho.1).trans (by rw [e]; rfl), fo_none ho.2⟩
theorem is_3 (e : h.kind = 3) (ho : okN h k = true) : (h = ⟨3, false, h.neg, h.dig, h.exp, 0, 0, ⟨#[]⟩⟩ ∧ k = .nil) ∧ rightD h.neg h.dig.data.toList h.exp = true := by
  rw [okN, if_neg (by omega), if_neg (by omega), if_pos e, o_isNum, j_isNum, Bool.and_eq_true, Bool.and_eq_true, beq_iff_eq] at ho
  exact ⟨⟨(sm_hd ho.1.1).trans (by rw [e]), fo_none ho.1.2⟩, ho.2⟩
theorem is_4 (e : h.kind = 4) (ho : okN h k = true) : (h = floH h.w h.u ∧ k = .nil) ∧ (widO h.u h.w).isSome = true := by
  rw [okN, if_neg (by omega), if_neg (by omega), if_neg (by omega), if_pos e, o_isFloat, j_isFloat, Bool.and_eq_true, Bool.and_eq_true, beq_iff_eq] at ho
  exact ⟨⟨(sm_hd ho.2.1).trans (by rw [e]; rfl), fo_none ho.2.2⟩, ho.1⟩
theorem is_5 (e : h.kind = 5) (ho : okN h k = true) : (h = strH 3 h.s.data.toList ∧ k = .nil) ∧ h.s.size ≤ 400 := by
  rw [okN, if_neg (by omega), if_neg (by omega), if_neg (by omega), if_neg (by omega), if_pos e, o_isText, o_isBytes, j_isBytes, Bool.and_eq_true, Bool.and_eq_true, Bool.and_eq_true, beq_iff_eq, decide_eq_true_eq] at ho
  exact ⟨⟨(sm_hd ho.1.1.1).trans (by rw [e]; rfl), fo_none ho.1.1.2⟩, ho.1.2⟩
theorem is_6 (e : h.kind = 6) (ho : okN h k = true) : (h = strH 2 h.s.data.toList ∧ k = .nil) ∧ h.s.size ≤ 400 := by
  rw [okN, if_neg (by omega), if_neg (by omega), if_neg (by omega), if_neg (by omega), if_neg (by omega), if_pos e, o_isBytes, j_isBytes, Bool.and_eq_true, Bool.and_eq_true, beq_iff_eq, decide_eq_true_eq] at ho
  exact ⟨⟨(sm_hd ho.1.1).trans (by rw [e]; rfl), fo_none ho.1.2⟩, ho.2⟩
theorem is_7 (e : h.kind = 7) (ho : okN h k = true) : h = arrC := by
  rw [okN, if_neg (by omega), if_neg (by omega), if_neg (by omega), if_neg (by omega), if_neg (by omega), if_neg (by omega), if_pos e, o_isArray, j_isArray, Bool.and_eq_true] at ho
  exact (sm_hd ho.1).trans (by rw [e]; rfl)
theorem is_8 (e : h.kind = 8) (ho : okN h k = true) : h = mapC ∧ k.len % 2 = 0 := by
  rw [okN, if_neg (by omega), if_neg (by omega), if_neg (by omega), if_neg (by omega), if_neg (by omega), if_neg (by omega), if_neg (by omega), if_pos e, o_isMap, o_isArray, j_isArray, Bool.and_eq_true, Bool.and_eq_true, Bool.and_eq_true, decide_eq_true_eq] at ho
  exact ⟨(sm_hd ho.1.1.1).trans (by rw [e]; rfl), ho.1.2⟩
theorem is_9 (e : h.kind = 9) (ho : okN h k = true) : h = tgC h.u ∧ k.len = 1 := by
  rw [okN, if_neg (by omega), if_neg (by omega), if_neg (by omega), if_neg (by omega), if_neg (by omega), if_neg (by omega), if_neg (by omega), if_neg (by omega), if_pos e, o_isTag, j_isTag, Bool.and_eq_true, Bool.and_eq_true, decide_eq_true_eq] at ho
  exact ⟨(sm_hd ho.1.1).trans (by rw [e]; rfl), ho.2⟩
theorem is_10 (e : h.kind = 10) (ho : okN h k = true) : (h = simH h.u ∧ k = .nil) ∧ simpleN h.u = true := by
  rw [okN, if_neg (by omega), if_neg (by omega), if_neg (by omega), if_neg (by omega), if_neg (by omega), if_neg (by omega), if_neg (by omega), if_neg (by omega), if_neg (by omega), if_pos e, o_isSimple, j_isSimple, Bool.and_eq_true, Bool.and_eq_true, beq_iff_eq] at ho
  exact ⟨⟨(sm_hd ho.1.1).trans (by rw [e]; rfl), fo_none ho.1.2⟩, ho.2⟩
end

/-! Numbers. -/
theorem make_of {n : Bool} {l : List UInt8} {e : Int} {a : Bool} {m : Nat} (hr : rightD n l e = true) (ht : toI n l e = some (a, m)) : a = n ∧ m < 18446744073709551616 ∧ makeR n (decDigits m) 0 = some (n, dv l, e) ∧ (n = true → 0 < m) := by
  have ht' := ht
  rw [toI] at ht'
  split at ht'
  · rename_i h
    simp only [Option.some.injEq, Prod.mk.injEq] at ht'
    obtain ⟨rfl, rfl⟩ := ht'
    obtain ⟨_, h0, h20, hb⟩ := h
    refine ⟨rfl, hb, ?_, ?_⟩
    · by_cases hz : l = [48]
      · subst hz
        rw [rightD_zero, Bool.and_eq_true, decide_eq_true_eq] at hr
        obtain ⟨rfl, hn⟩ := hr
        have hn2 : n = false := by cases n <;> simp_all
        subst hn2
        rw [show dv [48] * 10 ^ Int.toNat 0 = 0 from rfl, show decDigits 0 = [48] by rw [Lib.decDigits_one (by omega)]; rfl]
        rfl
      · obtain ⟨h1, h2, h3, _⟩ := right_num hr hz
        have h4 := dec_zeros (k := e.toNat) h2
        rw [h1] at h4
        rw [← h4]
        exact make_right (p := 0) (z := e.toNat) hr (by simp) (by
          rw [List.length_append, List.length_replicate]
          have := (right_parts hr).2.1
          omega) (by omega) (by omega) (by omega) (by omega)
    · rintro rfl
      by_cases hz : l = [48]
      · subst hz
        rw [right_neg0] at hr
        cases hr
      · obtain ⟨h1, h2, h3, _⟩ := right_num hr hz
        have : dv l ≠ 0 := by intro h5; rw [h5] at h2; exact h2 rfl
        exact Nat.mul_pos (Nat.pos_of_ne_zero this) (Nat.pow_pos (by decide))
  · cases ht'
theorem dec_right {n : Bool} {l : List UInt8} {e : Int} (h : rightD n l e = true) : decDigits (dv l) = l := by
  by_cases hz : l = [48]
  · subst hz
    rw [show dv [48] = 0 from rfl, Lib.decDigits_one (by omega)]
    rfl
  · exact (right_num h hz).1
theorem num_of {h : Hd} {a : Bool} {m : Nat} (e : h = ⟨3, false, h.neg, h.dig, h.exp, 0, 0, ⟨#[]⟩⟩) (hr : rightD h.neg h.dig.data.toList h.exp = true) (ht : toI h.neg h.dig.data.toList h.exp = some (a, m)) : h = numH h.neg m := by
  obtain ⟨_, _, hm, _⟩ := make_of hr ht
  rw [numH, hm]
  show h = ⟨3, false, h.neg, decB (dv h.dig.data.toList), h.exp, 0, 0, ⟨#[]⟩⟩
  rw [show decB (dv h.dig.data.toList) = h.dig from str_inj (by show (List.toArray (decDigits _)).toList = _; rw [dec_right hr])]
  exact e

/-! The plain item. -/
def flI (w : Int) : Nat := if w = 16 then 25 else if w = 32 then 26 else 27
/-- What a node has ahead of its list. -/
def ownB (h : Hd) (n : Nat) : List UInt8 :=
  if h.kind = 1 then headL 7 22
  else if h.kind = 2 then headL 7 (if h.b then 21 else 20)
  else if h.kind = 3 then (if tN (toI h.neg h.dig.data.toList h.exp) then headL 1 (tK (toI h.neg h.dig.data.toList h.exp) - 1) else headL 0 (tK (toI h.neg h.dig.data.toList h.exp)))
  else if h.kind = 4 then UInt8.ofNat (32 * 7 + flI h.w) :: bigL (h.w.toNat / 8) h.u
  else if h.kind = 5 then headL 3 h.s.size ++ h.s.data.toList
  else if h.kind = 6 then headL 2 h.s.size ++ h.s.data.toList
  else if h.kind = 7 then headL 4 n
  else if h.kind = 8 then headL 5 (n / 2)
  else if h.kind = 9 then headL 6 h.u
  else headL 7 h.u
def plB : Fo → List UInt8
  | .nil => []
  | .cons h k r => ownB h k.len ++ (plB k ++ plB r)
/-- A node that is right, and fits FormC. -/
def Gc : Hd → Fo → Prop := fun h k => (1 ≤ h.kind ∧ h.kind ≤ 10) ∧ okN h k = true ∧ h.u < 18446744073709551616 ∧ k.len ≤ 300 ∧ (h.kind = 3 → ∃ a m, toI h.neg h.dig.data.toList h.exp = some (a, m))
theorem rdL_wide {m k n a : Nat} (hm : m < 8) (hk : k < 32) (hn : nby k = some n) (h24 : ¬ k < 24) (ha : a < 256 ^ n) (t : List UInt8) : rdL (UInt8.ofNat (32 * m + k) :: (bigL n a ++ t)) = .ok (m, k, a, t) := by
  have hl := bigL_len n a
  rw [rdL_cons, s_first hm hk, show (32 * m + k) % 32 = k by omega, hn]
  simp only
  rw [if_neg (by rw [List.length_append, hl]; omega), List.take_left' hl, List.drop_left' hl, argW, if_neg h24, valQ_big, Nat.mod_eq_of_lt ha, show (32 * m + k) / 32 = m by omega]
/-- Is a list's count right? -/
def CntOk (p o : Bool) (n len : Nat) : Prop := if p = true then len + (if o = true then 1 else 0) = 2 * n else len = n
def ListBack (k : Fo) : Prop := ∀ (d n : Nat) (p o : Bool) (t : List UInt8), AllG Gc k → d + k.deep ≤ 17 → CntOk p o n k.len → listL FC tgC d (some n) p o (plB k ++ t) = .ok (k, t)
theorem item_back {h : Hd} {k : Fo} (IH : ListBack k) (d : Nat) (t : List UInt8) (hg : Gc h k) (hk : AllG Gc k) (hd : d + k.deep ≤ 16) : itC d (ownB h k.len ++ (plB k ++ t)) = .ok ((h, k), t) := by
  obtain ⟨⟨h1, h10⟩, ho, hu, hl, hi⟩ := hg
  have hkd : h.kind = 1 ∨ h.kind = 2 ∨ h.kind = 3 ∨ h.kind = 4 ∨ h.kind = 5 ∨ h.kind = 6 ∨ h.kind = 7 ∨ h.kind = 8 ∨ h.kind = 9 ∨ h.kind = 10 := by omega
  rw [itC, itemL_def, if_neg (by omega)]
  rcases hkd with e | e | e | e | e | e | e | e | e | e
  · obtain ⟨rfl, rfl⟩ := is_1 e ho
    rw [ownB, if_pos e, rdL_head (by decide) (by decide)]
    rfl
  · obtain ⟨hh, rfl⟩ := is_2 e ho
    rw [ownB, if_neg (by omega), if_pos e]
    cases hb : h.b with
    | true =>
      rw [hb] at hh
      rw [if_pos rfl, rdL_head (by decide) (by decide), hh]
      rfl
    | false =>
      rw [hb] at hh
      rw [if_neg (by decide), rdL_head (by decide) (by decide), hh]
      rfl
  · obtain ⟨⟨hh, rfl⟩, hr⟩ := is_3 e ho
    obtain ⟨a, m, ht⟩ := hi e
    obtain ⟨rfl, hm, _, hp⟩ := make_of hr ht
    have hn := num_of hh hr ht
    by_cases hb : h.neg = true
    · have hp := hp hb
      have hi := hinfo_le (m - 1)
      rw [hb] at hn
      have ho3 : ownB h Fo.nil.len = headL 1 (m - 1) := by
        rw [ownB, if_neg (by omega), if_neg (by omega), if_pos e, ht]
        simp [tN, tK, hb]
      rw [ho3, rdL_head (by decide) (by omega)]
      simp only
      rw [if_neg (by omega), if_neg (by decide), if_pos trivial]
      show Except.ok ((numH true (m - 1 + 1), Fo.nil), _) = _
      rw [show m - 1 + 1 = m by omega, ← hn]
      rfl
    · have hi := hinfo_le m
      have hb2 : h.neg = false := by simpa using hb
      rw [hb2] at hn
      have ho3 : ownB h Fo.nil.len = headL 0 m := by
        rw [ownB, if_neg (by omega), if_neg (by omega), if_pos e, ht]
        simp [tN, tK, hb2]
      rw [ho3, rdL_head (by decide) hm]
      simp only
      rw [if_neg (by omega), if_pos trivial]
      show Except.ok ((numH false m, Fo.nil), _) = _
      rw [← hn]
      rfl
  · obtain ⟨⟨hh, rfl⟩, hs⟩ := is_4 e ho
    have hw : (h.w = 16 ∧ h.u < 65536) ∨ (h.w = 32 ∧ h.u < 4294967296) ∨ h.w = 64 := by
      unfold widO at hs
      repeat' split at hs
      all_goals first
        | (exact .inl ⟨by assumption, by assumption⟩)
        | (exact .inr (.inl ⟨by assumption, by assumption⟩))
        | (exact .inr (.inr (by assumption)))
        | (cases hs; done)
    rcases hw with ⟨hw, hb⟩ | ⟨hw, hb⟩ | hw
    · rw [hw] at hh
      have ho5 : ownB h Fo.nil.len = UInt8.ofNat (32 * 7 + 25) :: bigL 2 h.u := by
        rw [ownB, if_neg (by omega), if_neg (by omega), if_neg (by omega), if_pos e, hw]
        rfl
      have ho6 : FC.oth 25 h.u = some (floH 16 h.u) := rfl
      rw [ho5, List.cons_append, rdL_wide (by decide) (by decide) rfl (by decide) (by omega)]
      simp only
      rw [if_neg (by decide), if_neg (by decide), if_neg (by decide), if_neg (by decide), if_neg (by decide), if_neg (by decide), if_neg (by decide), ho6, ← hh]
      rfl
    · rw [hw] at hh
      have ho5 : ownB h Fo.nil.len = UInt8.ofNat (32 * 7 + 26) :: bigL 4 h.u := by
        rw [ownB, if_neg (by omega), if_neg (by omega), if_neg (by omega), if_pos e, hw]
        rfl
      have ho6 : FC.oth 26 h.u = some (floH 32 h.u) := rfl
      rw [ho5, List.cons_append, rdL_wide (by decide) (by decide) rfl (by decide) (by omega)]
      simp only
      rw [if_neg (by decide), if_neg (by decide), if_neg (by decide), if_neg (by decide), if_neg (by decide), if_neg (by decide), if_neg (by decide), ho6, ← hh]
      rfl
    · rw [hw] at hh
      have ho5 : ownB h Fo.nil.len = UInt8.ofNat (32 * 7 + 27) :: bigL 8 h.u := by
        rw [ownB, if_neg (by omega), if_neg (by omega), if_neg (by omega), if_pos e, hw]
        rfl
      have ho6 : FC.oth 27 h.u = some (floH 64 h.u) := rfl
      rw [ho5, List.cons_append, rdL_wide (by decide) (by decide) rfl (by decide) (by omega)]
      simp only
      rw [if_neg (by decide), if_neg (by decide), if_neg (by decide), if_neg (by decide), if_neg (by decide), if_neg (by decide), if_neg (by decide), ho6, ← hh]
      rfl
  · obtain ⟨⟨hh, rfl⟩, hs⟩ := is_5 e ho
    have hi := hinfo_le h.s.size
    have hsl : h.s.data.toList.length = h.s.size := Array.length_toList
    rw [ownB, if_neg (by omega), if_neg (by omega), if_neg (by omega), if_neg (by omega), if_pos e, List.append_assoc, rdL_head (by decide) (by omega)]
    simp only
    rw [if_neg (by omega), if_neg (by decide), if_neg (by decide), if_pos (.inr trivial), if_neg (by omega), if_neg (by rw [List.length_append]; omega), List.take_left' hsl, List.drop_left' hsl]
    show Except.ok ((strH 3 h.s.data.toList, Fo.nil), _) = _
    rw [← hh]
    rfl
  · obtain ⟨⟨hh, rfl⟩, hs⟩ := is_6 e ho
    have hi := hinfo_le h.s.size
    have hsl : h.s.data.toList.length = h.s.size := Array.length_toList
    rw [ownB, if_neg (by omega), if_neg (by omega), if_neg (by omega), if_neg (by omega), if_neg (by omega), if_pos e, List.append_assoc, rdL_head (by decide) (by omega)]
    simp only
    rw [if_neg (by omega), if_neg (by decide), if_neg (by decide), if_pos (.inl trivial), if_neg (by omega), if_neg (by rw [List.length_append]; omega), List.take_left' hsl, List.drop_left' hsl]
    show Except.ok ((strH 2 h.s.data.toList, Fo.nil), _) = _
    rw [← hh]
    rfl
  · have hh := is_7 e ho
    have hi := hinfo_le k.len
    rw [ownB, if_neg (by omega), if_neg (by omega), if_neg (by omega), if_neg (by omega), if_neg (by omega), if_neg (by omega), if_pos e, rdL_head (by decide) (by omega)]
    simp only
    rw [if_neg (by omega), if_neg (by decide), if_neg (by decide), if_neg (by decide), if_pos trivial, if_neg (by omega), IH (d + 1) k.len false false t hk (by omega) rfl, hh]
  · obtain ⟨hh, h2⟩ := is_8 e ho
    have hi := hinfo_le (k.len / 2)
    rw [ownB, if_neg (by omega), if_neg (by omega), if_neg (by omega), if_neg (by omega), if_neg (by omega), if_neg (by omega), if_neg (by omega), if_pos e, rdL_head (by decide) (by omega)]
    simp only
    rw [if_neg (by omega), if_neg (by decide), if_neg (by decide), if_neg (by decide), if_neg (by decide), if_pos trivial, if_neg (by omega), IH (d + 1) (k.len / 2) true false t hk (by omega) (by show _ + 0 = _; omega), hh]
  · obtain ⟨hh, h2⟩ := is_9 e ho
    have hi := hinfo_le h.u
    rw [ownB, if_neg (by omega), if_neg (by omega), if_neg (by omega), if_neg (by omega), if_neg (by omega), if_neg (by omega), if_neg (by omega), if_neg (by omega), if_pos e, rdL_head (by decide) hu]
    simp only
    rw [if_neg (by omega), if_neg (by decide), if_neg (by decide), if_neg (by decide), if_neg (by decide), if_neg (by decide), if_pos trivial]
    have hq := IH (d + 1) 1 false false t hk (by omega) h2
    rw [listL_def, if_neg (by decide), if_neg (by rintro ⟨h, _⟩; cases h)] at hq
    cases hx : itemL FC tgC (d + 1) (plB k ++ t) with
    | error e => rw [hx] at hq; cases hq
    | ok y =>
      obtain ⟨⟨h', f⟩, r⟩ := y
      rw [hx] at hq
      simp only [less] at hq
      rw [listL_def, if_pos (by rfl)] at hq
      cases hq
      simp only
      rw [← hh]
  · obtain ⟨⟨hh, rfl⟩, hs⟩ := is_10 e ho
    rw [ownB, if_neg (by omega), if_neg (by omega), if_neg (by omega), if_neg (by omega), if_neg (by omega), if_neg (by omega), if_neg (by omega), if_neg (by omega), if_neg (by omega), rdL_head (by decide) hu]
    have hi := hinfo_le h.u
    simp only
    rw [if_neg (by omega), if_neg (by decide), if_neg (by decide), if_neg (by decide), if_neg (by decide), if_neg (by decide), if_neg (by decide)]
    have ho : FC.oth (hinfo h.u) h.u = some (simH h.u) := by
      show othH _ _ = _
      simp only [simpleN, Bool.or_eq_true, Bool.and_eq_true, decide_eq_true_eq] at hs
      rcases hs with (hs | hs) | hs
      · rw [hinfo, if_pos (by omega), othH, if_neg (by omega), if_neg (by omega), if_neg (by omega), if_neg (by omega)]
      · rw [hs]; rfl
      · rw [hinfo, if_neg (by omega), if_pos (by omega), othH, if_neg (by omega), if_neg (by omega), if_neg (by omega), if_neg (by omega)]
    rw [ho, ← hh]
    rfl
theorem list_back : ∀ (k : Fo), ListBack k
  | .nil => fun d n p o t _ _ hc => by
    have hn : n = 0 := by
      unfold CntOk at hc
      rw [Fo.len] at hc
      repeat' split at hc
      all_goals omega
    rw [listL_def, if_pos (by rw [hn])]
    rfl
  | .cons h k r => fun d n p o t hG hd hc => by
    have IHk := list_back k
    have IHr := list_back r
    obtain ⟨g1, g2, g3⟩ := hG
    simp only [Fo.deep] at hd
    have hn : n ≠ 0 := by
      unfold CntOk at hc
      rw [Fo.len] at hc
      repeat' split at hc
      all_goals omega
    rw [listL_def, if_neg (by simpa using hn), if_neg (by rintro ⟨h, _⟩; cases h), plB, List.append_assoc, List.append_assoc]
    have h1 := item_back (h := h) IHk d (plB r ++ t) g1 g2 (by omega)
    rw [itC] at h1
    rw [h1]
    simp only
    have hls : ∃ n', less (some n) p o = some n' ∧ CntOk p (!o) n' r.len := by
      unfold CntOk at hc ⊢
      rw [Fo.len] at hc
      unfold less
      cases p <;> cases o <;> simp at hc ⊢ <;> omega
    obtain ⟨n', e1, e2⟩ := hls
    rw [e1, IHr d n' p (!o) t g3 (by omega) e2]
/-- What is written is read as that tree, whatever is behind it. -/
theorem item_plain {h : Hd} {k : Fo} (hg : AllG Gc (.cons h k .nil)) (hd : k.deep + 1 ≤ 16) (t : List UInt8) : itC 1 (plB (.cons h k .nil) ++ t) = .ok ((h, k), t) := by
  rw [plB, plB, List.append_nil, List.append_assoc]
  exact item_back (list_back k) 1 t hg.1 hg.2.1 (by omega)
end Go.Proofs.YtppapkpceejnkaaGreatDoor
namespace Go.Proofs.YtppapkpceejnkaaGreatDoor
open Go.RowKit

/-- A tag's number, a float's bits, as memory holds them. -/
def Gu : Hd → Fo → Prop := fun h _ => h.u < 18446744073709551616
theorem gc_of {h : Hd} {k : Fo} (h1 : okN h k = true) (h2 : fitN (frmOf 2) h k = true) (h3 : 1 ≤ h.kind ∧ h.kind ≤ 11) (hl : k.len ≤ 300) (hu : h.u < 18446744073709551616) : Gc h k := by
  rw [fitN, Bool.and_eq_true] at h2
  refine ⟨⟨h3.1, ?_⟩, h1, hu, hl, fun e => ?_⟩
  · have h4 : h.kind ≠ 11 := by
      intro e
      have h5 := h2.1
      rw [e] at h5
      exact absurd h5 (by decide)
    omega
  · have h4 := h2.2
    rw [if_pos e, fitNum] at h4
    have h5 : (frmOf 2).whole = true := rfl
    rw [h5] at h4
    simp only [Bool.not_true, Bool.false_or, Bool.and_eq_true] at h4
    obtain ⟨⟨a, m⟩, hx⟩ := Option.isSome_iff_exists.1 h4.1
    exact ⟨a, m, hx⟩
theorem gc_all : ∀ (f : Fo), okAll okN f = true → fitAll (frmOf 2) f = true → f.cnt ≤ 300 → AllG Gu f → AllG Gc f
  | .nil, _, _, _, _ => trivial
  | .cons h k r, h1, h2, h3, ⟨u1, u2, u3⟩ => by
    rw [okAll] at h1
    rw [fitAll] at h2
    simp only [Bool.and_eq_true, decide_eq_true_eq] at h1 h2
    rw [Fo.cnt] at h3
    have := len_cnt k
    exact ⟨gc_of h1.1.1.2 h2.1.1 h1.1.1.1 (by omega) u1, gc_all k h1.1.2 h2.1.2 (by omega) u2, gc_all r h1.2 h2.2 (by omega) u3⟩
theorem chk_gc {h : Hd} {k : Fo} (e : chk 2 h k = 0) (hu : AllG Gu (.cons h k .nil)) : AllG Gc (.cons h k .nil) ∧ 1 + k.cnt ≤ 300 ∧ k.deep + 1 ≤ 16 := by
  unfold chk at e
  split at e
  · rename_i h1
    split at e
    · rename_i h2
      rw [rgt, rightR, Bool.and_eq_true, decide_eq_true_eq] at h1
      exact ⟨gc_all _ h1.2 h2 (by rw [Fo.cnt]; simp only [Fo.cnt]; omega) hu, h1.1⟩
    · cases e
  · cases e
theorem gu_lies {P : Nat → Prop} {W : World} : ∀ {f : Fo} {B o : Nat}, Lies P W f B o → AllG Gu f
  | .nil, _, _, _ => trivial
  | .cons h k r, _, _, ⟨⟨v, _, hk⟩, hu, hr⟩ => ⟨hu, (by
      rcases hk with ⟨_, _, _, rfl⟩ | ⟨b, o, c, _, _, _, _, _, hl⟩
      · trivial
      · exact gu_lies hl), gu_lies hr⟩
theorem gu_kd {P : Nat → Prop} {W : World} {v : Value} {k : Fo} (h : Kd P W v k) : AllG Gu k := by
  rcases h with ⟨_, _, _, rfl⟩ | ⟨b, o, c, _, _, _, _, _, hl⟩
  · trivial
  · exact gu_lies hl
theorem gu_one {P : Nat → Prop} {W : World} {v : Value} {h : Hd} {k : Fo} (hk : Kd P W v k) (hu : h.u < 18446744073709551616) : AllG Gu (.cons h k .nil) := ⟨hu, gu_kd hk, trivial⟩

/-- The plain item of a node. -/
def itB (h : Hd) (k : Fo) : List UInt8 := plB (.cons h k .nil)
theorem itB_eq (h : Hd) (k : Fo) : itB h k = ownB h k.len ++ plB k := by rw [itB, plB, plB, List.append_nil]
theorem it_back {h : Hd} {k : Fo} (e : chk 2 h k = 0) (hu : AllG Gu (.cons h k .nil)) (t : List UInt8) : itC 1 (itB h k ++ t) = .ok ((h, k), t) :=
  have h1 := chk_gc e hu
  item_plain h1.1 h1.2.2 t
theorem ownB_pos (h : Hd) (n : Nat) : 0 < (ownB h n).length := by
  unfold ownB
  repeat' split
  all_goals simp [headL]
theorem itB_pos (h : Hd) (k : Fo) : 0 < (itB h k).length := by
  rw [itB_eq, List.length_append]
  have := ownB_pos h k.len
  omega
end Go.Proofs.YtppapkpceejnkaaGreatDoor
