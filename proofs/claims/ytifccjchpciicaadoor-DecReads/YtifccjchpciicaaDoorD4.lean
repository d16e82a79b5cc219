/- The walks of the document's own Num and Format. -/
import Derived.Test.YtifccjchpciicaaDoorD3
import Derived.Deep.QuietTactic
import Derived.BigQuiet
namespace Go.Proofs.YtifccjchpciicaaDoor
open Go.RowKit
open Go.Lib (decDigits nDigits)

/-- A number's digits, with its sign. -/
def numB (x : Int) : ByteArray := if x < 0 then ⟨#[45]⟩ ++ decB x.natAbs else decB x.natAbs
theorem numB_pos (k : Nat) : numB (k : Int) = decB k := by rw [numB, if_neg (by omega), Int.natAbs_natCast]
theorem numB_neg {k : Nat} (h : 0 < k) : numB (-(k : Int)) = ⟨#[45]⟩ ++ decB k := by rw [numB, if_pos (by omega), Int.natAbs_neg, Int.natAbs_natCast]

set_option maxRecDepth 100000 in
set_option maxHeartbeats 1000000 in
theorem num_pos (k : Nat) (w : World) (hk : k ≤ 100000) : Calls Tryd.prog 19 #[.int .i64 (k : Int)] w fun o w' => o = .returned (.string (numB (k : Int))) ∧ Below w.heap.size w w' := by
  have HE := Lib.hid (numB_pos k)
  have HO := Lib.hid (fun w => rOf_calls k w (by omega))
  go_enter Tryd.func19, Tryd.ntmps19
  go_wp2_with (go_at_call 35; refine (HO.out _).mono ?_; rintro o w1 ⟨rfl, hb1⟩)
  go_ret
  exact ⟨by rw [HE.out]; rfl, hb1⟩

set_option maxRecDepth 100000 in
set_option maxHeartbeats 1000000 in
theorem num_neg (k : Nat) (w : World) (h0 : 0 < k) (hk : k ≤ 100000) : Calls Tryd.prog 19 #[.int .i64 (-(k : Int))] w fun o w' => o = .returned (.string (numB (-(k : Int)))) ∧ Below w.heap.size w w' := by
  have HE := Lib.hid (numB_neg h0)
  have HO := Lib.hid (fun w => rOf_calls k w (by omega))
  have hsz := decB_size (n := k) (by omega)
  have hlt : -(k : Int) < 0 := by omega
  go_enter Tryd.func19, Tryd.ntmps19
  go_wp2_with (go_at_call 35; refine (HO.out _).mono ?_; rintro o w1 ⟨rfl, hb1⟩)
  go_ret
  exact ⟨by rw [HE.out]; rfl, hb1⟩

theorem num_calls (x : Int) (w : World) (h1 : -100000 ≤ x) (h2 : x ≤ 100000) : Calls Tryd.prog 19 #[.int .i64 x] w fun o w' => o = .returned (.string (numB x)) ∧ Below w.heap.size w w' := by
  rcases (show x < 0 ∨ 0 ≤ x by omega) with h | h
  · obtain ⟨k, rfl⟩ : ∃ k : Nat, x = -(k : Int) := ⟨x.natAbs, by omega⟩
    exact num_neg k w (by omega) (by omega)
  · obtain ⟨k, rfl⟩ := Int.eq_ofNat_of_zero_le h
    exact num_pos k w (by omega)

theorem numB_size {x : Int} (h1 : -100000 ≤ x) (h2 : x ≤ 100000) : (numB x).size ≤ 21 := by
  have := decB_size (n := x.natAbs) (by omega)
  rw [numB]
  split
  · rw [ByteArray.size_append, show (ByteArray.mk #[45]).size = 1 from rfl]; omega
  · omega

/-- The plain writing's body. -/
def fmtB (s : ByteArray) (e : Int) : ByteArray :=
  if e < -20 ∨ 20 < e then s ++ ⟨#[101]⟩ ++ numB e
  else if 0 ≤ e then s ++ zerB e.toNat
  else (zerB (1 - e - s.size).toNat ++ s).extract 0 ((zerB (1 - e - s.size).toNat ++ s).size - e.natAbs) ++ ⟨#[46]⟩ ++ (zerB (1 - e - s.size).toNat ++ s).extract ((zerB (1 - e - s.size).toNat ++ s).size - e.natAbs) (zerB (1 - e - s.size).toNat ++ s).size
def sgnB (n : Bool) (s : ByteArray) : ByteArray := if n = true then ⟨#[45]⟩ ++ s else s
def FmtPost (n : Bool) (s : ByteArray) (e : Int) (w : World) (o : Ending) (w' : World) : Prop :=
  ((rightD n s.data.toList e = true ∧ o = .returned (.tuple #[.string (sgnB n (fmtB s e)), .int .i64 0])) ∨ (rightD n s.data.toList e = false ∧ o = .returned (.tuple #[.string noB, .int .i64 40]))) ∧ Below w.heap.size w w'

theorem one_dec {w w2 : World} {a0 a1 a2 : Value} {T : TypeId} (hb : Below (w.alloc (.cells #[a0, a1, a2] T)).heap.size (w.alloc (.cells #[a0, a1, a2] T)) w2) :
    (w2.cell? ⟨w.heap.size, 0, none⟩ = some a0 ∧ w2.cell? ⟨w.heap.size, 1, none⟩ = some a1 ∧ w2.cell? ⟨w.heap.size, 2, none⟩ = some a2) ∧ w.heap.size < w2.heap.size ∧ Below w.heap.size w w2 := by
  refine ⟨⟨(hb.cell (p := ⟨w.heap.size, 0, none⟩) (by simp)).trans (by simp), (hb.cell (p := ⟨w.heap.size, 1, none⟩) (by simp)).trans (by simp), (hb.cell (p := ⟨w.heap.size, 2, none⟩) (by simp)).trans (by simp)⟩, ?_, ((Below.refl _ w).alloc (Nat.le_refl _) _).trans (hb.mono (by simp))⟩
  have := hb.size
  simp at this
  omega

theorem right_agg {n : Bool} {s : ByteArray} {e : Int} {b : Bool} (h : rightD n s.data.toList e = b) (w : World) : Calls Tryd.prog 16 #[.agg #[.bool n, .string s, .int .i64 e]] w fun o w' => o = .returned (.bool b) ∧ Below w.heap.size w w' := by
  subst h
  exact rRight4_calls n s e w
theorem right_parts {n : Bool} {l : List UInt8} {e : Int} (h : rightD n l e = true) : isNat l = true ∧ l.length ≤ 100 ∧ -100 ≤ e ∧ e ≤ 100 := by
  rw [rightD, Bool.and_eq_true, Bool.and_eq_true] at h
  obtain ⟨⟨h1, h2⟩, h3⟩ := h
  refine ⟨h1, by simpa using h2, ?_⟩
  split at h3
  · simp at h3; omega
  · simp at h3; omega

set_option maxRecDepth 100000 in
set_option maxHeartbeats 2000000 in
theorem rFormat_no (n : Bool) (s : ByteArray) (e : Int) (w : World) (h : rightD n s.data.toList e = false) : Calls Tryd.prog 11 #[.agg #[.bool n, .string s, .int .i64 e]] w (FmtPost n s e w) := by
  have H := Lib.hid h
  clear h
  go_enter Tryd.func11, Tryd.ntmps11
  go_wp2_with (go_at_call 16; refine (right_agg H.out _).mono ?_; rintro o w1 ⟨rfl, hb1⟩; obtain ⟨_, _, hbw⟩ := one_dec hb1)
  go_ret2
  exact ⟨.inr ⟨H.out, rfl⟩, hbw⟩

set_option maxRecDepth 100000 in
set_option maxHeartbeats 2000000 in
theorem rFormat_exp (n : Bool) (s : ByteArray) (e : Int) (w : World) (h : rightD n s.data.toList e = true) (he : e < -20 ∨ 20 < e) : Calls Tryd.prog 11 #[.agg #[.bool n, .string s, .int .i64 e]] w (FmtPost n s e w) := by
  have H := Lib.hid h
  obtain ⟨_, hl, hx1, hx2⟩ := right_parts h
  have hsz : s.size ≤ 100 := by rw [Lib.size_eq]; exact hl
  have HF : Hid (fmtB s e = s ++ ⟨#[101]⟩ ++ numB e) := Lib.hid (by rw [fmtB, if_pos he])
  have HN := Lib.hid (fun w => num_calls e w (by omega) (by omega))
  have hns := numB_size (x := e) (by omega) (by omega)
  clear h hl
  rcases he with he | he
  · have d1 : decide (e < -20) = true := by simpa using he
    cases n
    all_goals
      go_enter Tryd.func11, Tryd.ntmps11
      go_wp2_with (first
        | (go_at_call 16; refine (right_agg H.out _).mono ?_; rintro o w1 ⟨rfl, hb1⟩; obtain ⟨⟨c0, c1, c2⟩, hz1, hbw⟩ := one_dec hb1; have HB1 := Lib.hid hbw; clear hb1 hbw)
        | (go_at_call 19; refine (HN.out _).mono ?_; rintro o w2 ⟨rfl, hb2⟩; have k0 := (hb2.cell (p := ⟨w.heap.size, 0, none⟩) hz1).trans c0; have HB2 := Lib.hid (HB1.out.trans (hb2.mono HB1.out.size)); clear hb2))
      go_ret2
      exact ⟨.inl ⟨H.out, by rw [HF.out]; rfl⟩, HB2.out⟩
  · have d1 : decide (e < -20) = false := by simp; omega
    have d2 : decide ((20 : Int) < e) = true := by simpa using he
    cases n
    all_goals
      go_enter Tryd.func11, Tryd.ntmps11
      go_wp2_with (first
        | (go_at_call 16; refine (right_agg H.out _).mono ?_; rintro o w1 ⟨rfl, hb1⟩; obtain ⟨⟨c0, c1, c2⟩, hz1, hbw⟩ := one_dec hb1; have HB1 := Lib.hid hbw; clear hb1 hbw)
        | (go_at_call 19; refine (HN.out _).mono ?_; rintro o w2 ⟨rfl, hb2⟩; have k0 := (hb2.cell (p := ⟨w.heap.size, 0, none⟩) hz1).trans c0; have HB2 := Lib.hid (HB1.out.trans (hb2.mono HB1.out.size)); clear hb2))
      go_ret2
      exact ⟨.inl ⟨H.out, by rw [HF.out]; rfl⟩, HB2.out⟩

set_option maxRecDepth 100000 in
set_option maxHeartbeats 2000000 in
theorem rFormat_pos (n : Bool) (s : ByteArray) (k : Nat) (w : World) (h : rightD n s.data.toList (k : Int) = true) (he : k ≤ 20) : Calls Tryd.prog 11 #[.agg #[.bool n, .string s, .int .i64 (k : Int)]] w (FmtPost n s k w) := by
  have H := Lib.hid h
  obtain ⟨_, hl, _, _⟩ := right_parts h
  have hsz : s.size ≤ 100 := by rw [Lib.size_eq]; exact hl
  have HF : Hid (fmtB s k = s ++ zerB k) := Lib.hid (by rw [fmtB, if_neg (by omega), if_pos (by omega)]; rfl)
  have HZ := Lib.hid (fun w => zeros_calls (k : Int) w (by omega))
  have hzs := zerB_size k
  have d1 : decide ((k : Int) < -20) = false := decide_eq_false (by omega)
  have d2 : decide ((20 : Int) < (k : Int)) = false := by simp; omega
  clear h hl
  cases n
  all_goals
    go_enter Tryd.func11, Tryd.ntmps11
    go_wp2_with (first
      | (go_at_call 16; refine (right_agg H.out _).mono ?_; rintro o w1 ⟨rfl, hb1⟩; obtain ⟨⟨c0, c1, c2⟩, hz1, hbw⟩ := one_dec hb1; have HB1 := Lib.hid hbw; clear hb1 hbw)
      | (go_at_call 21; refine (HZ.out _).mono ?_; rintro o w2 ⟨rfl, rfl⟩))
    go_ret2
    exact ⟨.inl ⟨H.out, by rw [HF.out]; rfl⟩, HB1.out⟩

theorem zeros_eq (x : Int) (m : Nat) (w : World) (h : x.toNat = m) (hx : x ≤ 100000) : Calls Tryd.prog 21 #[.int .i64 x] w fun o w' => o = .returned (.string (zerB m)) ∧ w = w' := by
  subst h
  exact zeros_calls x w hx

set_option maxRecDepth 100000 in
set_option maxHeartbeats 2000000 in
theorem rFormat_neg (n : Bool) (s : ByteArray) (k : Nat) (w : World) (h : rightD n s.data.toList (-(k : Int)) = true) (h0 : 0 < k) (he : k ≤ 20) : Calls Tryd.prog 11 #[.agg #[.bool n, .string s, .int .i64 (-(k : Int))]] w (FmtPost n s (-(k : Int)) w) := by
  have H := Lib.hid h
  obtain ⟨_, hl, _, _⟩ := right_parts h
  have hsz : s.size ≤ 100 := by rw [Lib.size_eq]; exact hl
  obtain ⟨z, hz⟩ : ∃ z, z = (1 - (-(k : Int)) - s.size).toNat := ⟨_, rfl⟩
  have hz1 : z = 1 + k - s.size := by omega
  obtain ⟨Z, hZ⟩ : ∃ Z, Z = zerB z := ⟨_, rfl⟩
  have hZs : Z.size = z := by rw [hZ, zerB_size]
  obtain ⟨p, hp⟩ : ∃ p, p = (Z ++ s).size - k := ⟨_, rfl⟩
  have hPs : (Z ++ s).size = Z.size + s.size := ByteArray.size_append
  have hpk : (Z ++ s).size = p + k := by omega
  have HF : Hid (fmtB s (-(k : Int)) = (Z ++ s).extract 0 p ++ ⟨#[46]⟩ ++ (Z ++ s).extract p (Z ++ s).size) := Lib.hid (by
    rw [fmtB, if_neg (by omega), if_neg (by omega), Int.natAbs_neg, Int.natAbs_natCast, ← hz, ← hZ, ← hp])
  have HZc := Lib.hid (fun x w h hx => zeros_eq x z w h hx)
  rw [← hZ] at HZc
  have HZ1 := Lib.hid hz1
  have hZl : Z.size ≤ 100 := by omega
  have hpl : p ≤ 200 := by omega
  have d1 : decide (-(k : Int) < -20) = false := decide_eq_false (by omega)
  have d2 : decide ((20 : Int) < -(k : Int)) = false := decide_eq_false (by omega)
  have d3 : decide (0 ≤ -(k : Int)) = false := decide_eq_false (by omega)
  have d3' : ¬ (0 ≤ -(k : Int)) := by omega
  obtain ⟨P, hP⟩ : ∃ P, P = Z ++ s := ⟨_, rfl⟩
  rw [← hP] at HF hpk
  have HP := Lib.hid hP
  have hPl : P.size ≤ 300 := by omega
  clear h hl hZ hZs hp hPs hP hz hz1
  cases n
  all_goals
    go_enter Tryd.func11, Tryd.ntmps11
    go_upto_region 9 with (first
      | (go_at_call 16; refine (right_agg H.out _).mono ?_; rintro o w1 ⟨rfl, hb1⟩; obtain ⟨⟨c0, c1, c2⟩, hz1, hbw⟩ := one_dec hb1; have HB1 := Lib.hid hbw; clear hb1 hbw)
      | (go_at_call 21; refine (HZc.out _ _ (by have := HZ1.out; omega) (by omega)).mono ?_; rintro o w2 ⟨rfl, rfl⟩))
    rw [← HP.out]
    have q1 : IntKind.i64.wrap ((P.size : Int) + -(k : Int)) = (p : Int) := by rw [show (P.size : Int) + -(k : Int) = (p : Int) by omega, IntKind.wrap_i64]; omega
    have q2 : (P.size : Int) + -(k : Int) = (p : Int) := by omega
    have i1 : (p : Int) ≤ (P.size : Int) := by omega
    have i2 : p ≤ P.size := by omega
    clear d1 d2 d3 d3' hpk
    go_quiet (fail)
    go_wp2
    go_ret2
    exact ⟨.inl ⟨H.out, by rw [HF.out]; rfl⟩, HB1.out.trans ⟨rfl, rfl, rfl, Nat.le_refl _, fun _ _ => rfl⟩⟩

theorem rFormat_calls (n : Bool) (s : ByteArray) (e : Int) (w : World) : Calls Tryd.prog 11 #[.agg #[.bool n, .string s, .int .i64 e]] w (FmtPost n s e w) := by
  cases h : rightD n s.data.toList e with
  | false => exact rFormat_no n s e w h
  | true =>
    by_cases he : e < -20 ∨ 20 < e
    · exact rFormat_exp n s e w h he
    · rcases (show e < 0 ∨ 0 ≤ e by omega) with h1 | h1
      · obtain ⟨k, rfl⟩ : ∃ k : Nat, e = -(k : Int) := ⟨e.natAbs, by omega⟩
        exact rFormat_neg n s k w h (by omega) (by omega)
      · obtain ⟨k, rfl⟩ := Int.eq_ofNat_of_zero_le h1
        exact rFormat_pos n s k w h (by omega)
end Go.Proofs.YtifccjchpciicaaDoor
