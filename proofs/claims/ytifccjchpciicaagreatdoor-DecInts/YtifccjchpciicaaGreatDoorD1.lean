/- Decimals, and the walks of the document's own Right, digits, Num, zeros. -/
import Derived.Test.YtifccjchpciicaaGreatDoorR1
namespace Go.Proofs.YtifccjchpciicaaGreatDoor
open Go.RowKit
open Go.Lib (decDigits nDigits)

/-- No bytes. -/
def noB : ByteArray := ⟨#[]⟩
/-- A decimal as a value. -/
def decV (n : Bool) (s : ByteArray) (e : Int) : Value := .agg #[.bool n, .string s, .int .i64 e]
/-- Is a decimal right? -/
def rightD (n : Bool) (l : List UInt8) (e : Int) : Bool :=
  isNat l && decide (l.length ≤ 100) && (if l = [48] then decide (e = 0) && !n else decide (-100 ≤ e) && decide (e ≤ 100) && (l.getLast? != some 48))

theorem rightD_nat {n : Bool} {l : List UInt8} {e : Int} (h : isNat l = false) : rightD n l e = false := by rw [rightD, h]; rfl
theorem rightD_long {n : Bool} {l : List UInt8} {e : Int} (h : 100 < l.length) : rightD n l e = false := by
  rw [rightD, show decide (l.length ≤ 100) = false from by simp; omega]; simp
theorem rightD_zero {n : Bool} {e : Int} : rightD n [48] e = (decide (e = 0) && !n) := by
  rw [rightD, show isNat [48] = true from by decide]; simp
theorem rightD_more {n : Bool} {l : List UInt8} {e : Int} (h1 : isNat l = true) (h2 : l.length ≤ 100) (h3 : l ≠ [48]) : rightD n l e = (decide (-100 ≤ e) && decide (e ≤ 100) && (l.getLast? != some 48)) := by
  rw [rightD, h1, show decide (l.length ≤ 100) = true from by simp; omega, if_neg h3]; simp
theorem last_byte {s : ByteArray} (h : 0 < s.size) : (s.data.toList.getLast? != some 48) = !(((byteAt s (s.size - 1)).toNat : Int) == 48) := by
  rw [List.getLast?_eq_getElem?, ← Lib.size_eq, byteAt_list]
  have hl : s.size - 1 < s.data.toList.length := by rw [← Lib.size_eq]; omega
  rw [List.getElem?_eq_getElem hl]
  generalize s.data.toList[s.size - 1] = c
  rw [Option.getD_some]
  by_cases hc : c = 48
  · subst hc; rfl
  · have h1 : ¬ c.toNat = 48 := fun e => hc (UInt8.toNat_inj.1 e)
    rw [show ((c.toNat : Int) == 48) = false from by simp; omega, show (some c != some 48) = true from by simp [hc]]
    rfl

set_option maxRecDepth 100000 in
set_option maxHeartbeats 1000000 in
theorem rRight4_calls (n : Bool) (s : ByteArray) (e : Int) (w : World) : Calls Tryz.prog 17 #[decV n s e] w fun o w' => o = .returned (.bool (rightD n s.data.toList e)) ∧ Below w.heap.size w w' := by
  unfold decV
  cases hn : isNat s.data.toList with
  | false =>
    have HN := Lib.hid hn
    have HR : Hid (rightD n s.data.toList e = false) := Lib.hid (rightD_nat hn)
    clear hn
    go_enter Tryz.func17, Tryz.ntmps17
    go_wp2_with (go_at_call 39; refine (rRight_is _ false _ HN.out).mono ?_; rintro e w1 ⟨rfl, rfl⟩)
    go_ret
    exact ⟨by rw [HR.out]; rfl, (Below.refl _ _).alloc (Nat.le_refl _) _⟩
  | true =>
    have HN := Lib.hid hn
    obtain ⟨hd, hl⟩ := nat_digs hn
    have h0 : 0 < s.size := by
      rcases Nat.eq_zero_or_pos s.size with h | h
      · exact absurd (List.eq_nil_of_length_eq_zero (by rw [← Lib.size_eq]; exact h)) hd.1
      · exact h
    clear hd
    by_cases h1 : 100 < s.size
    · have HR : Hid (rightD n s.data.toList e = false) := Lib.hid (rightD_long (by rw [← Lib.size_eq]; exact h1))
      have hb : decide ((100 : Int) < (s.size : Int)) = true := by simp; omega
      clear hn
      go_enter Tryz.func17, Tryz.ntmps17
      go_wp2_with (go_at_call 39; refine (rRight_is _ true _ HN.out).mono ?_; rintro e w1 ⟨rfl, rfl⟩)
      go_ret
      exact ⟨by rw [HR.out]; rfl, (Below.refl _ _).alloc (Nat.le_refl _) _⟩
    · have hb : decide ((100 : Int) < (s.size : Int)) = false := by simp; omega
      by_cases h2 : s.data.toList = [48]
      · have HR : Hid (rightD n s.data.toList e = (decide (e = 0) && !n)) := Lib.hid (by rw [h2]; exact rightD_zero)
        have hq : (s.toList == [48]) = true := by rw [Lib.toList_data, h2]; rfl
        clear hn h2
        by_cases he : e = 0
        · subst he
          cases n
          all_goals
            go_enter Tryz.func17, Tryz.ntmps17
            go_wp2_with (go_at_call 39; refine (rRight_is _ true _ HN.out).mono ?_; rintro e w1 ⟨rfl, rfl⟩)
            go_ret
            exact ⟨by rw [HR.out]; rfl, (Below.refl _ _).alloc (Nat.le_refl _) _⟩
        · have hz : (e == 0) = false := by simpa using he
          go_enter Tryz.func17, Tryz.ntmps17
          go_wp2_with (go_at_call 39; refine (rRight_is _ true _ HN.out).mono ?_; rintro e w1 ⟨rfl, rfl⟩)
          go_ret
          exact ⟨by rw [HR.out, show decide (e = 0) = false from by simpa using he]; rfl, (Below.refl _ _).alloc (Nat.le_refl _) _⟩
      · have HR : Hid (rightD n s.data.toList e = (decide (-100 ≤ e) && decide (e ≤ 100) && !(((byteAt s (s.size - 1)).toNat : Int) == 48))) := Lib.hid (by rw [rightD_more hn (by rw [← Lib.size_eq]; omega) h2, last_byte h0])
        have hq : (s.toList == [48]) = false := by rw [Lib.toList_data]; exact beq_eq_false_iff_ne.2 h2
        have hq' : ¬ s.toList = [48] := by rw [Lib.toList_data]; exact h2
        clear hn h2
        by_cases he1 : -100 ≤ e
        · by_cases he2 : e ≤ 100
          · obtain ⟨p, hp⟩ : ∃ p, p = s.size - 1 := ⟨_, rfl⟩
            have hpi : (s.size : Int) - 1 = (p : Int) := by omega
            have hpl : p < s.size := by omega
            have hpv : (s[p]'hpl).toNat = (byteAt s p).toNat := by rw [byteAt_eq s p hpl]
            rw [← hp, show decide (-100 ≤ e) = true from by simpa using he1, show decide (e ≤ 100) = true from by simpa using he2] at HR
            clear hp
            by_cases hc : (byteAt s p).toNat = 48
            · have hcb : (((byteAt s p).toNat : Int) == 48) = true := by rw [hc]; rfl
              rw [hcb] at HR
              go_enter Tryz.func17, Tryz.ntmps17
              go_wp2_with (go_at_call 39; refine (rRight_is _ true _ HN.out).mono ?_; rintro e w1 ⟨rfl, rfl⟩)
              go_ret
              exact ⟨by rw [HR.out]; rfl, (Below.refl _ _).alloc (Nat.le_refl _) _⟩
            · have hcb : (((byteAt s p).toNat : Int) == 48) = false := by simp; omega
              have hcn : (((byteAt s p).toNat : Int) != 48) = true := by simp; omega
              rw [hcb] at HR
              go_enter Tryz.func17, Tryz.ntmps17
              go_wp2_with (go_at_call 39; refine (rRight_is _ true _ HN.out).mono ?_; rintro e w1 ⟨rfl, rfl⟩)
              go_ret
              exact ⟨by rw [HR.out]; rfl, (Below.refl _ _).alloc (Nat.le_refl _) _⟩
          · rw [show decide (e ≤ 100) = false from by simpa using he2, Bool.and_false, Bool.false_and] at HR
            go_enter Tryz.func17, Tryz.ntmps17
            go_wp2_with (go_at_call 39; refine (rRight_is _ true _ HN.out).mono ?_; rintro e w1 ⟨rfl, rfl⟩)
            go_ret
            exact ⟨by rw [HR.out]; rfl, (Below.refl _ _).alloc (Nat.le_refl _) _⟩
        · rw [show decide (-100 ≤ e) = false from by simpa using he1, Bool.false_and, Bool.false_and] at HR
          go_enter Tryz.func17, Tryz.ntmps17
          go_wp2_with (go_at_call 39; refine (rRight_is _ true _ HN.out).mono ?_; rintro e w1 ⟨rfl, rfl⟩)
          go_ret
          exact ⟨by rw [HR.out]; rfl, (Below.refl _ _).alloc (Nat.le_refl _) _⟩

/-- How many digits a text begins with. -/
def ndig (l : List UInt8) : Nat := (l.takeWhile isD).length
theorem ndig_le (l : List UInt8) : ndig l ≤ l.length := by
  unfold ndig
  exact List.Sublist.length_le (List.takeWhile_sublist _)
theorem ndig_stop {l : List UInt8} {k : Nat} (h1 : ∀ j, j < k → ∃ c, l[j]? = some c ∧ isD c = true) (h2 : ∀ c, l[k]? = some c → isD c = false) : ndig l = k := by
  induction k generalizing l with
  | zero =>
    cases l with
    | nil => rfl
    | cons c l => rw [ndig, List.takeWhile_cons, h2 c rfl]; rfl
  | succ k ih =>
    cases l with
    | nil => obtain ⟨c, hc, _⟩ := h1 0 (by omega); simp at hc
    | cons c l =>
      obtain ⟨d, hd, hd2⟩ := h1 0 (by omega)
      obtain rfl : c = d := by simpa using hd
      have := ih (l := l) (fun j hj => by have := h1 (j + 1) (by omega); simpa using this) (fun c hc => h2 c (by simpa using hc))
      rw [ndig, List.takeWhile_cons, hd2]
      simp only [if_true, List.length_cons]
      rw [show (l.takeWhile isD).length = k from this]

/-- So many zeros. -/
def zerB (n : Nat) : ByteArray := ⟨(List.replicate n 48).toArray⟩
theorem zerB_data (n : Nat) : (zerB n).data.toList = List.replicate n 48 := by simp [zerB]
theorem zerB_size (n : Nat) : (zerB n).size = n := by rw [Lib.size_eq, zerB_data]; simp
theorem zerB_succ (n : Nat) : zerB n ++ ⟨#[48]⟩ = zerB (n + 1) := str_inj (by
  rw [ByteArray.data_append, Array.toList_append, zerB_data, zerB_data, List.replicate_succ'])

set_option maxRecDepth 100000 in
set_option maxHeartbeats 1000000 in
theorem zeros_calls (x : Int) (w : World) (hx : x ≤ 100000) : Calls Tryz.prog 19 #[.int .i64 x] w fun o w' => o = .returned (.string (zerB x.toNat)) ∧ w = w' := by
  go_enter Tryz.func19, Tryz.ntmps19
  go_wp2
  go_loop [3, 4] (fun v i => ∃ k : Nat, i = .int .i64 k ∧ v = .string (zerB k) ∧ k ≤ x.toNat) (fun _ i => x.toNat - (intOf i).toNat)
  case atStart => exact ⟨0, rfl, rfl, by omega⟩
  case round =>
    obtain ⟨k, rfl, rfl, hk⟩ := hrel
    have hsz := zerB_size k
    by_cases hlt : (k : Int) < x
    · have HS := Lib.hid (zerB_succ k)
      go_wp2
      go_round
      case rel => exact ⟨k + 1, by go_num, by rw [← HS.out], by omega⟩
      case measure => simp [intOf]; omega
    · have HS : Hid (x.toNat = k) := Lib.hid (by omega)
      go_wp2
      go_ret
      exact ⟨by rw [HS.out]; rfl, rfl⟩
end Go.Proofs.YtifccjchpciicaaGreatDoor
