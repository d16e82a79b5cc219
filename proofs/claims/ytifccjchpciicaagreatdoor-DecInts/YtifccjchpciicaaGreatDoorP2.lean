/- Plain mathematics: plain writings are read as what they are of. -/
import Derived.Test.YtifccjchpciicaaGreatDoorP1
namespace Go.Proofs.YtifccjchpciicaaGreatDoor
open Go.Lib (decDigits nDigits)

def numL (x : Int) : List UInt8 := if x < 0 then 45 :: decDigits x.natAbs else decDigits x.natAbs
/-- The plain writing, without its sign. -/
def padL (l : List UInt8) (k : Nat) : List UInt8 := List.replicate (1 + k - l.length) 48 ++ l
def fmtL (l : List UInt8) (e : Int) : List UInt8 :=
  if e < -20 ∨ 20 < e then l ++ 101 :: numL e
  else if 0 ≤ e then l ++ List.replicate e.toNat 48
  else (padL l e.natAbs).take ((padL l e.natAbs).length - e.natAbs) ++ 46 :: (padL l e.natAbs).drop ((padL l e.natAbs).length - e.natAbs)
def sgL (n : Bool) (l : List UInt8) : List UInt8 := if n = true then 45 :: l else l

theorem app_data (a b : ByteArray) : (a ++ b).data.toList = a.data.toList ++ b.data.toList := by rw [ByteArray.data_append, Array.toList_append]
theorem numB_data (x : Int) : (numB x).data.toList = numL x := by
  rw [numB, numL]
  split
  · rw [app_data, decB_data]; rfl
  · exact decB_data _
theorem pad_data (s : ByteArray) (e : Int) (he : e < 0) : (zerB (1 - e - s.size).toNat ++ s).data.toList = padL s.data.toList e.natAbs := by
  rw [app_data, zerB_data, padL, show (1 - e - (s.size : Int)).toNat = 1 + e.natAbs - s.data.toList.length from by rw [← Lib.size_eq]; omega]
theorem fmtB_data (s : ByteArray) (e : Int) : (fmtB s e).data.toList = fmtL s.data.toList e := by
  rw [fmtB, fmtL]
  split
  · rw [app_data, app_data, numB_data, List.append_assoc]; rfl
  · split
    · rw [app_data, zerB_data]
    · rename_i h1 h2
      have hp := pad_data s e (by omega)
      have hs : (zerB (1 - e - s.size).toNat ++ s).size = (padL s.data.toList e.natAbs).length := by rw [Lib.size_eq, hp]
      rw [app_data, app_data, Lib.extract_data, Lib.extract_data, hp, hs, List.append_assoc, List.drop_zero, Nat.sub_zero]
      rw [show ((⟨#[46]⟩ : ByteArray).data.toList) = [46] from rfl, List.singleton_append]
      congr 2
      rw [List.take_of_length_le]
      rw [List.length_drop]
      omega
theorem sgnB_data (n : Bool) (s : ByteArray) : (sgnB n s).data.toList = sgL n s.data.toList := by
  rw [sgnB, sgL]
  split
  · rw [app_data]; rfl
  · rfl

/-- What is made of digits among zeros. -/
theorem dv_pad (p : Nat) (l : List UInt8) : dv (List.replicate p 48 ++ l) = dv l := by
  induction p with
  | zero => rfl
  | succ p ih => rw [List.replicate_succ, List.cons_append, dv_zero_cons, ih]
theorem all_rep (p : Nat) : (List.replicate p (48 : UInt8)).all isD = true := by
  rw [List.all_eq_true]
  intro x hx
  rw [(List.mem_replicate.1 hx).2]; decide
/-- A right decimal's digits, as a number. -/
theorem right_num {n : Bool} {l : List UInt8} {e : Int} (h : rightD n l e = true) (h0 : l ≠ [48]) : decDigits (dv l) = l ∧ dv l % 10 ≠ 0 ∧ nDigits (dv l) ≤ 100 ∧ l.head? ≠ some 48 := by
  obtain ⟨h1, h2, _, _⟩ := right_parts h
  obtain ⟨g1, g2, g3, g4⟩ := isNat_parts h1
  have g3' : l.head? ≠ some 48 := by
    rcases g3 with g | g
    · exact g
    · exact absurd g h0
  have hc := dec_canon g1 (.inl g3') g4
  have hr := rightD_more (n := n) (e := e) h1 h2 h0
  rw [h] at hr
  have hr2 := hr.symm
  simp only [Bool.and_eq_true] at hr2
  refine ⟨hc, ?_, ?_, g3'⟩
  · intro hz
    have h3 := dec_last (a := dv l)
    rw [hc, hz] at h3
    have h4 := hr2.2
    rw [h3] at h4
    exact absurd h4 (by decide)
  · have := congrArg List.length hc
    rw [Lib.decDigits_length] at this
    omega
theorem make_right {n : Bool} {l q : List UInt8} {e x : Int} {p z : Nat} (h : rightD n l e = true) (hq : q = List.replicate p 48 ++ l ++ List.replicate z 48) (hl : q.length ≤ 400) (hx : x = e - z) (hz : z ≤ 400) (hx1 : -1000 ≤ x) (hx2 : x ≤ 1000) :
    makeR n q x = some (n, dv l, e) := by
  obtain ⟨h1, h2, h3, h4⟩ := right_parts h
  obtain ⟨g1, g2, g3, g4⟩ := isNat_parts h1
  have hqd : dv q = dv l * 10 ^ z := by rw [hq, dv_zeros, dv_pad]
  have hqa : q.all isD = true := by rw [hq, List.all_append, List.all_append, all_rep, all_rep, g4]; rfl
  have hqn : q ≠ [] := by
    intro e
    have := congrArg List.length (hq.symm.trans e)
    simp only [List.length_append, List.length_nil] at this
    have : l.length = 0 := by omega
    exact g1 (List.eq_nil_of_length_eq_zero this)
  have hok : ¬ (q = [] ∨ 400 < q.length ∨ x < -1000 ∨ 1000 < x ∨ q.all isD = false) := by
    rintro (h | h | h | h | h)
    · exact hqn h
    · omega
    · omega
    · omega
    · rw [hqa] at h; cases h
  by_cases h0 : l = [48]
  · subst h0
    rw [rightD_zero] at h
    simp only [Bool.and_eq_true, decide_eq_true_eq, Bool.not_eq_true'] at h
    obtain ⟨rfl, rfl⟩ := h
    rw [makeR_zero hok (by rw [hqd, show dv [48] = 0 from by decide, Nat.zero_mul])]
    rfl
  · obtain ⟨k1, k2, k3, _⟩ := right_num h h0
    rw [makeR_more hok hqd k2 hz, if_pos ⟨k3, by omega, by omega⟩, show x + (z : Int) = e from by omega]

theorem lead_of {q t : List UInt8} (h1 : q ≠ []) (h2 : q.all isD = true) (h3 : q.head? ≠ some 48 ∨ q.length = 1) (ht : headIs isD t = false) : leadN (q ++ t) = q.length ∧ ndig (q ++ t) ≠ 0 := by
  have hn := ndig_all h2 ht
  refine ⟨?_, by rw [hn]; exact fun e => h1 (List.eq_nil_of_length_eq_zero e)⟩
  rw [leadN]
  split
  · rename_i h5
    rcases h3 with h3 | h3
    · cases q with
      | nil => exact absurd rfl h1
      | cons c l => simp at h5 h3; exact absurd h5 h3
    · exact h3.symm
  · exact hn

/-- What is read behind the sign. -/
def parseC (n : Bool) (r : List UInt8) : Option ((Bool × Nat × Int) × List UInt8) :=
  if ndig r = 0 then none
  else match expoR (r2L r) with
    | none => none
    | some (k, c) => match makeR n (allD r) (-(fracN (r1L r) : Int) + k) with
      | none => none
      | some d => some (d, (r2L r).drop c)
theorem parseR_eq (l : List UInt8) : parseR l = parseC (sgnL l) (offL l) := rfl
theorem parse_sg {n : Bool} {r : List UInt8} (h : headIs isD r = true) : parseR (sgL n r) = parseC n r := by
  rw [parseR_eq]
  cases n with
  | true => rfl
  | false =>
    cases r with
    | nil => cases h
    | cons c r =>
      have hc : ¬ c = 45 := by
        intro e
        subst e
        exact absurd (show isD 45 = true from h) (by decide)
      have hs : sgnL (sgL false (c :: r)) = false := by simp [sgL, sgnL, hc]
      rw [offL, hs]; rfl

theorem head_app {p : UInt8 → Bool} {a b : List UInt8} (h : a ≠ []) : headIs p (a ++ b) = headIs p a := by
  cases a with
  | nil => exact absurd rfl h
  | cons c a => rfl
theorem head_all {a : List UInt8} (h : a ≠ []) (ha : a.all isD = true) : headIs isD a = true := by
  cases a with
  | nil => exact absurd rfl h
  | cons c a => simp only [List.all_cons, Bool.and_eq_true] at ha; exact ha.1

/-- Digits, and nothing that goes on with them. -/
theorem parse_whole {n : Bool} {q t : List UInt8} {d : Bool × Nat × Int} (h1 : q ≠ []) (h2 : q.all isD = true) (h3 : q.head? ≠ some 48 ∨ q.length = 1) (ht : Stop t) (hm : makeR n q 0 = some d) : parseC n (q ++ t) = some (d, t) := by
  obtain ⟨k1, k2⟩ := lead_of h1 h2 h3 ht.dig
  have e1 : r1L (q ++ t) = t := by rw [r1L, k1, List.drop_left]
  have e2 : fracN (r1L (q ++ t)) = 0 := by rw [e1, fracN, if_neg ht.point]
  have e3 : r2L (q ++ t) = t := by rw [r2L, if_pos e2, e1]
  have e4 : allD (q ++ t) = q := by rw [allD, e2, k1, List.take_left, List.take_zero, List.append_nil]
  rw [parseC, if_neg k2, e3, expoR_stop ht, e4, e2]
  simp only [Int.ofNat_zero, Int.neg_zero, Int.add_zero, List.drop_zero]
  rw [hm]

/-- Digits, a point, digits, and nothing that goes on with them. -/
theorem parse_point {n : Bool} {q f t : List UInt8} {d : Bool × Nat × Int} (h1 : q ≠ []) (h2 : q.all isD = true) (h3 : q.head? ≠ some 48 ∨ q.length = 1) (f1 : f ≠ []) (f2 : f.all isD = true) (ht : Stop t)
    (hm : makeR n (q ++ f) (-(f.length : Int)) = some d) : parseC n (q ++ 46 :: (f ++ t)) = some (d, t) := by
  obtain ⟨k1, k2⟩ := lead_of (t := 46 :: (f ++ t)) h1 h2 h3 (show isD 46 = false by decide)
  have e1 : r1L (q ++ 46 :: (f ++ t)) = 46 :: (f ++ t) := by rw [r1L, k1, List.drop_left]
  have e2 : fracN (r1L (q ++ 46 :: (f ++ t))) = f.length := by rw [e1, fracN, if_pos (show (46 :: (f ++ t)).head? = some 46 from rfl), List.tail_cons, ndig_all f2 ht.dig]
  have hf : f.length ≠ 0 := fun e => f1 (List.eq_nil_of_length_eq_zero e)
  have e3 : r2L (q ++ 46 :: (f ++ t)) = t := by
    rw [r2L, e2, if_neg hf, e1, Nat.add_comm, List.drop_succ_cons, List.drop_left]
  have e4 : allD (q ++ 46 :: (f ++ t)) = q ++ f := by rw [allD, e2, k1, List.take_left, e1, List.tail_cons, List.take_left]
  rw [parseC, if_neg k2, e3, expoR_stop ht, e4, e2]
  simp only [Int.add_zero, List.drop_zero]
  rw [hm]

/-- An exponent as it is written. -/
theorem expo_num {b : UInt8} (hb : isE b = true) (x : Int) (h1 : -9999 ≤ x) (h2 : x ≤ 9999) {t : List UInt8} (ht : Stop t) : ∃ c, expoR (b :: (numL x ++ t)) = some (x, c) ∧ (b :: (numL x ++ t)).drop c = t := by
  have hd : nDigits x.natAbs ≤ 4 := nDigits_le (by decide) (by omega)
  have hp := Lib.nDigits_pos x.natAbs
  have hall : (decDigits x.natAbs).all isD = true := all_dec _
  have hnd : ndig (decDigits x.natAbs ++ t) = nDigits x.natAbs := by rw [ndig_all hall ht.dig, Lib.decDigits_length]
  have htk : (decDigits x.natAbs ++ t).take (nDigits x.natAbs) = decDigits x.natAbs := by
    rw [← Lib.decDigits_length, List.take_left]
  by_cases hx : x < 0
  · have e0 : numL x = 45 :: decDigits x.natAbs := by rw [numL, if_pos hx]
    have ea : atN (b :: (numL x ++ t)) = 2 := by rw [atN, e0]; rfl
    have ed : (b :: (numL x ++ t)).drop 2 = decDigits x.natAbs ++ t := by rw [e0]; rfl
    refine ⟨2 + nDigits x.natAbs, ?_, ?_⟩
    · rw [expoR, if_pos (show headIs isE (b :: (numL x ++ t)) = true from hb), ea, ed, hnd, if_neg (by omega), if_neg (by omega), htk, dv_dec, if_pos (by rw [e0]; rfl)]
      congr 2
      omega
    · rw [← List.drop_drop, ed, ← Lib.decDigits_length, List.drop_left]
  · have e0 : numL x = decDigits x.natAbs := by rw [numL, if_neg hx]
    have hh : headIs isD (decDigits x.natAbs) = true := head_all (dec_ne _) hall
    obtain ⟨c, r, hc⟩ : ∃ c r, decDigits x.natAbs = c :: r := by
      cases e : decDigits x.natAbs with
      | nil => exact absurd e (dec_ne _)
      | cons c r => exact ⟨c, r, rfl⟩
    rw [hc] at hh
    have hcd : isD c = true := hh
    have hs : isS c = false := by
      rw [Bool.eq_false_iff]
      intro e
      simp only [isS, Bool.or_eq_true, beq_iff_eq] at e
      rcases e with rfl | rfl
      · exact absurd hcd (by decide)
      · exact absurd hcd (by decide)
    have hm : ¬ c = 45 := by rintro rfl; exact absurd hcd (by decide)
    have ea : atN (b :: (numL x ++ t)) = 1 := by
      rw [atN, e0, hc, if_neg]
      show ¬ isS c = true
      rw [hs]; decide
    have ed : (b :: (numL x ++ t)).drop 1 = decDigits x.natAbs ++ t := by rw [e0]; rfl
    refine ⟨1 + nDigits x.natAbs, ?_, ?_⟩
    · rw [expoR, if_pos (show headIs isE (b :: (numL x ++ t)) = true from hb), ea, ed, hnd, if_neg (by omega), if_neg (by omega), htk, dv_dec, if_neg (by
        rw [e0, hc]
        show ¬ some c = some 45
        simpa using hm)]
      congr 2
      omega
    · rw [← List.drop_drop, ed, ← Lib.decDigits_length, List.drop_left]

theorem not_dig_e {b : UInt8} (hb : isE b = true) : isD b = false ∧ b ≠ 46 := by
  simp only [isE, Bool.or_eq_true, beq_iff_eq] at hb
  rcases hb with rfl | rfl
  · exact ⟨by decide, by decide⟩
  · exact ⟨by decide, by decide⟩
/-- Digits, an exponent, and nothing that goes on with them. -/
theorem parse_exp {n : Bool} {q t : List UInt8} {d : Bool × Nat × Int} {b : UInt8} {x : Int} (h1 : q ≠ []) (h2 : q.all isD = true) (h3 : q.head? ≠ some 48 ∨ q.length = 1) (hb : isE b = true) (hx1 : -9999 ≤ x) (hx2 : x ≤ 9999) (ht : Stop t) (hm : makeR n q x = some d) :
    parseC n (q ++ b :: (numL x ++ t)) = some (d, t) := by
  obtain ⟨hbd, hbp⟩ := not_dig_e hb
  obtain ⟨k1, k2⟩ := lead_of (t := b :: (numL x ++ t)) h1 h2 h3 hbd
  have e1 : r1L (q ++ b :: (numL x ++ t)) = b :: (numL x ++ t) := by rw [r1L, k1, List.drop_left]
  have e2 : fracN (r1L (q ++ b :: (numL x ++ t))) = 0 := by
    rw [e1, fracN, if_neg]
    show ¬ some b = some 46
    simpa using hbp
  have e3 : r2L (q ++ b :: (numL x ++ t)) = b :: (numL x ++ t) := by rw [r2L, if_pos e2, e1]
  have e4 : allD (q ++ b :: (numL x ++ t)) = q := by rw [allD, e2, k1, List.take_left, List.take_zero, List.append_nil]
  obtain ⟨c, c1, c2⟩ := expo_num hb x hx1 hx2 ht
  rw [parseC, if_neg k2, e3, c1, e4, e2]
  simp only [Int.ofNat_zero, Int.neg_zero, Int.zero_add]
  rw [hm, c2]
/-- Digits, a point, digits, an exponent, and nothing that goes on with them. -/
theorem parse_both {n : Bool} {q f t : List UInt8} {d : Bool × Nat × Int} {b : UInt8} {x : Int} (h1 : q ≠ []) (h2 : q.all isD = true) (h3 : q.head? ≠ some 48 ∨ q.length = 1) (f1 : f ≠ []) (f2 : f.all isD = true) (hb : isE b = true) (hx1 : -9999 ≤ x) (hx2 : x ≤ 9999) (ht : Stop t)
    (hm : makeR n (q ++ f) (-(f.length : Int) + x) = some d) : parseC n (q ++ 46 :: (f ++ b :: (numL x ++ t))) = some (d, t) := by
  obtain ⟨hbd, hbp⟩ := not_dig_e hb
  obtain ⟨T, hT⟩ : ∃ T, T = b :: (numL x ++ t) := ⟨_, rfl⟩
  rw [← hT]
  have hTd : headIs isD T = false := by rw [hT]; exact hbd
  obtain ⟨k1, k2⟩ := lead_of (t := 46 :: (f ++ T)) h1 h2 h3 (show isD 46 = false by decide)
  have e1 : r1L (q ++ 46 :: (f ++ T)) = 46 :: (f ++ T) := by rw [r1L, k1, List.drop_left]
  have e2 : fracN (r1L (q ++ 46 :: (f ++ T))) = f.length := by rw [e1, fracN, if_pos (show (46 :: (f ++ T)).head? = some 46 from rfl), List.tail_cons, ndig_all f2 hTd]
  have hf : f.length ≠ 0 := fun e => f1 (List.eq_nil_of_length_eq_zero e)
  have e3 : r2L (q ++ 46 :: (f ++ T)) = T := by
    rw [r2L, e2, if_neg hf, e1, Nat.add_comm, List.drop_succ_cons, List.drop_left]
  have e4 : allD (q ++ 46 :: (f ++ T)) = q ++ f := by rw [allD, e2, k1, List.take_left, e1, List.tail_cons, List.take_left]
  obtain ⟨c, c1, c2⟩ := expo_num hb x hx1 hx2 ht
  rw [← hT] at c1 c2
  rw [parseC, if_neg k2, e3, c1, e4, e2]
  simp only
  rw [hm, c2]

theorem pad_length (l : List UInt8) (k : Nat) : k < (padL l k).length := by
  rw [padL, List.length_append, List.length_replicate]; omega

/-- Plain writings are read as what they are of. -/
theorem parse_fmt {n : Bool} {l t : List UInt8} {e : Int} (h : rightD n l e = true) (ht : Stop t) : parseR (sgL n (fmtL l e) ++ t) = some ((n, dv l, e), t) := by
  obtain ⟨h1, h2, h3, h4⟩ := right_parts h
  obtain ⟨g1, g2, g3, g4⟩ := isNat_parts h1
  have g3' : l.head? ≠ some 48 ∨ l.length = 1 := by
    rcases g3 with g | g
    · exact .inl g
    · exact .inr (by rw [g]; rfl)
  have hsg : sgL n (fmtL l e) ++ t = sgL n (fmtL l e ++ t) := by cases n <;> rfl
  rw [hsg]
  by_cases he : e < -20 ∨ 20 < e
  · have ef : fmtL l e ++ t = l ++ 101 :: (numL e ++ t) := by rw [fmtL, if_pos he]; simp
    rw [ef, parse_sg (by rw [head_app g1]; exact head_all g1 g4)]
    exact parse_exp g1 g4 g3' (by decide) (by omega) (by omega) ht (make_right (p := 0) (z := 0) h (by simp) (by omega) (by omega) (by omega) (by omega) (by omega))
  · by_cases he0 : 0 ≤ e
    · have ef : fmtL l e = l ++ List.replicate e.toNat 48 := by rw [fmtL, if_neg he, if_pos he0]
      have hq : isNat (l ++ List.replicate e.toNat 48) = true := nat_zeros (n := n) (by rw [show ((e.toNat : Nat) : Int) = e from by omega]; exact h) (by omega)
      obtain ⟨q1, q2, q3, q4⟩ := isNat_parts hq
      have q3' : (l ++ List.replicate e.toNat 48).head? ≠ some 48 ∨ (l ++ List.replicate e.toNat 48).length = 1 := by
        rcases q3 with g | g
        · exact .inl g
        · exact .inr (by rw [g]; rfl)
      rw [ef, parse_sg (by rw [head_app q1]; exact head_all q1 q4)]
      exact parse_whole q1 q4 q3' ht (make_right (p := 0) (z := e.toNat) h (by simp) q2 (by omega) (by omega) (by omega) (by omega))
    · obtain ⟨k, hk⟩ : ∃ k, k = e.natAbs := ⟨_, rfl⟩
      have h0 : l ≠ [48] := by
        rintro rfl
        rw [rightD_zero] at h
        simp only [Bool.and_eq_true, decide_eq_true_eq] at h
        omega
      obtain ⟨_, _, _, hhd⟩ := right_num h h0
      have hlen := pad_length l k
      have hpa : (padL l k).all isD = true := by rw [padL, List.all_append, all_rep, g4]; rfl
      obtain ⟨a, ha⟩ : ∃ a, a = (padL l k).take ((padL l k).length - k) := ⟨_, rfl⟩
      obtain ⟨f, hf⟩ : ∃ f, f = (padL l k).drop ((padL l k).length - k) := ⟨_, rfl⟩
      have haf : a ++ f = padL l k := by rw [ha, hf, List.take_append_drop]
      have hfl : f.length = k := by rw [hf, List.length_drop]; omega
      have hal : a.length = (padL l k).length - k := by rw [ha, List.length_take]; omega
      have hall : a.all isD = true ∧ f.all isD = true := by
        rw [← haf, List.all_append, Bool.and_eq_true] at hpa; exact hpa
      have ha0 : a ≠ [] := by intro e; rw [e, List.length_nil] at hal; omega
      have hf0 : f ≠ [] := by intro e; rw [e, List.length_nil] at hfl; omega
      have ha3 : a.head? ≠ some 48 ∨ a.length = 1 := by
        by_cases hp : 1 + k ≤ l.length
        · left
          have e1 : padL l k = l := by rw [padL, show 1 + k - l.length = 0 from by omega]; rfl
          have e2 : a.head? = l.head? := by
            rw [← e1, ← haf]
            cases a with
            | nil => exact absurd rfl ha0
            | cons c a => rfl
          rw [e2]; exact hhd
        · right
          rw [hal, padL, List.length_append, List.length_replicate]
          omega
      have ef : fmtL l e ++ t = a ++ 46 :: (f ++ t) := by
        rw [fmtL, if_neg he, if_neg he0, ← hk, ← ha, ← hf]; simp
      rw [ef, parse_sg (by rw [head_app ha0]; exact head_all ha0 hall.1)]
      refine parse_point ha0 hall.1 ha3 hf0 hall.2 ht ?_
      rw [haf, hfl]
      refine make_right (p := 1 + k - l.length) (z := 0) h (by rw [padL]; simp) ?_ (by omega) (by omega) (by omega) (by omega)
      rw [padL, List.length_append, List.length_replicate]
      omega
end Go.Proofs.YtifccjchpciicaaGreatDoor
