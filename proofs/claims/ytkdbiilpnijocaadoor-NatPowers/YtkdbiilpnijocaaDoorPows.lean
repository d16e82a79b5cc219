/- The walk of NatPowers. -/
import Derived.Test.YtkdbiilpnijocaaDoorRests
namespace Go.Proofs.YtkdbiilpnijocaaDoor
open Go.RowKit

set_option maxRecDepth 100000 in
set_option maxHeartbeats 1000000 in
theorem pows_out (b : Int) (m n : Int) (w : World) (htab : Tab w) (h : m < 0 ∨ n < 0 ∨ 200 < m ∨ 200 < n) :
    Calls Tryd.prog 9 #[.int .u32 b, .int .i64 m, .int .i64 n] w fun e w' => e = .returned (.bool true) ∧ Below w.heap.size w w' := by
  have HT := Lib.hid htab
  clear htab
  have hh : m < 0 ∨ (¬ m < 0 ∧ n < 0) ∨ (¬ m < 0 ∧ ¬ n < 0 ∧ 200 < m) ∨ (¬ m < 0 ∧ ¬ n < 0 ∧ ¬ 200 < m ∧ 200 < n) := by omega
  clear h
  rcases hh with h | ⟨h, h'⟩ | ⟨h, h', h''⟩ | ⟨h, h', h'', h3⟩
  all_goals
    go_enter Tryd.func9, Tryd.ntmps9
    go_wp2_with (go_at_call 11; refine (shown_calls _ HT.out).mono ?_; rintro e w1 ⟨rfl, hb1⟩; have HB1 := Lib.hid hb1; clear hb1)
    go_ret
    exact ⟨rfl, HB1.out⟩

set_option maxRecDepth 100000 in
set_option maxHeartbeats 1000000 in
theorem pows_walk (b m n : Nat) (hm : m ≤ 200) (hn : n ≤ 200) (A B C D : ByteArray) (e f g h : Int) (w : World) (htab : Tab w)
    (h1 : Ans 25 #[.int .u32 (b : Int), .int .i64 (m : Int)] (.tuple #[.string A, .int .i64 e]))
    (h2 : Ans 25 #[.int .u32 (b : Int), .int .i64 (n : Int)] (.tuple #[.string B, .int .i64 f]))
    (h3 : Ans 25 #[.int .u32 (b : Int), .int .i64 ((m : Int) + (n : Int))] (.tuple #[.string C, .int .i64 g]))
    (h4 : Ans 21 #[.string A, .string B] (.tuple #[.string D, .int .i64 h]))
    (h5 : (e ≠ 0 ∧ g = 11) ∨ (e = 0 ∧ f ≠ 0 ∧ g = 11) ∨ (e = 0 ∧ f = 0 ∧ g = h ∧ C = D)) :
    Calls Tryd.prog 9 #[.int .u32 (b : Int), .int .i64 (m : Int), .int .i64 (n : Int)] w fun e w' => e = .returned (.bool true) ∧ Below w.heap.size w w' := by
  have HT := Lib.hid htab
  have H1 := Lib.hid h1
  have H2 := Lib.hid h2
  have H3 := Lib.hid h3
  have H4 := Lib.hid h4
  have H5 := Lib.hid h5
  clear htab h1 h2 h3 h4 h5
  have c1 : decide ((m : Int) < 0) = false := by simp
  have c2 : decide ((n : Int) < 0) = false := by simp
  have c3 : decide ((200 : Int) < (m : Int)) = false := by simp; omega
  have c4 : decide ((200 : Int) < (n : Int)) = false := by simp; omega
  go_enter Tryd.func9, Tryd.ntmps9
  go_wp2_with (go_at_call 11; refine (shown_calls _ HT.out).mono ?_; rintro e w1 ⟨rfl, hb1⟩; have HB1 := Lib.hid hb1; have HT1 := Lib.hid (HT.out.below hb1); clear hb1)
  refine (H1.out _ HT1.out).mono ?_
  rintro e' w2 ⟨rfl, hb2⟩
  have HB2 := Lib.hid (HB1.out.trans (hb2.mono HB1.out.size)); have HT2 := Lib.hid (HT1.out.below hb2); clear hb2
  go_wp2_with fail
  refine (H2.out _ HT2.out).mono ?_
  rintro e' w3 ⟨rfl, hb3⟩
  have HB3 := Lib.hid (HB2.out.trans (hb3.mono HB2.out.size)); have HT3 := Lib.hid (HT2.out.below hb3); clear hb3
  go_wp2_with fail
  refine (H3.out _ HT3.out).mono ?_
  rintro e' w4 ⟨rfl, hb4⟩
  have HB4 := Lib.hid (HB3.out.trans (hb4.mono HB3.out.size)); have HT4 := Lib.hid (HT3.out.below hb4); clear hb4
  go_wp2_with fail
  refine (H4.out _ HT4.out).mono ?_
  rintro e' w5 ⟨rfl, hb5⟩
  have HB5 := Lib.hid (HB4.out.trans (hb5.mono HB4.out.size)); clear hb5
  rcases H5.out with ⟨h1, rfl⟩ | ⟨rfl, h1, rfl⟩ | ⟨rfl, rfl, rfl, rfl⟩
  all_goals clear H5
  all_goals go_wp2
  all_goals go_ret
  all_goals exact ⟨rfl, HB5.out⟩

theorem pows_in (b m n : Nat) (hb : b < 4294967296) (hm : m ≤ 200) (hn : n ≤ 200) (w : World) (htab : Tab w) :
    Calls Tryd.prog 9 #[.int .u32 (b : Int), .int .i64 (m : Int), .int .i64 (n : Int)] w fun e w' => e = .returned (.bool true) ∧ Below w.heap.size w w' := by
  have hP : ∀ k : Nat, k ≤ 400 → (b ^ k < lim ∧ Ans 25 #[.int .u32 (b : Int), .int .i64 (k : Int)] (.tuple #[.string (decB (b ^ k)), .int .i64 0])) ∨ (lim ≤ b ^ k ∧ Ans 25 #[.int .u32 (b : Int), .int .i64 (k : Int)] (.tuple #[.string noB, .int .i64 11])) :=
    fun k hk => ans_tell (fun w ht => Power_yes b k w hb hk ht)
  have hS := hP (m + n) (by omega)
  rw [Int.natCast_add] at hS
  rcases hP m (by omega) with ⟨l1, a1⟩ | ⟨l1, a1⟩
  · rcases hP n (by omega) with ⟨l2, a2⟩ | ⟨l2, a2⟩
    · have hM := ans_tell (fun w ht => Mul_yes (decB (b ^ m)) (decB (b ^ n)) w (isNat_decB l1) (isNat_decB l2) ht)
      rw [dv_decB, dv_decB, ← Nat.pow_add] at hM
      rcases hS with ⟨l3, a3⟩ | ⟨l3, a3⟩ <;> rcases hM with ⟨l4, a4⟩ | ⟨l4, a4⟩
      · exact pows_walk b m n hm hn _ _ _ _ _ _ _ _ w htab a1 a2 a3 a4 (.inr (.inr ⟨rfl, rfl, rfl, rfl⟩))
      · omega
      · omega
      · exact pows_walk b m n hm hn _ _ _ _ _ _ _ _ w htab a1 a2 a3 a4 (.inr (.inr ⟨rfl, rfl, rfl, rfl⟩))
    · have := pow_over l2 (show n ≤ m + n by omega)
      rcases hS with ⟨l3, a3⟩ | ⟨l3, a3⟩
      · omega
      · exact pows_walk b m n hm hn _ _ _ _ _ _ _ _ w htab a1 a2 a3 (Mul_nil _ _ (by rw [isNat_noB, Bool.and_false])) (.inr (.inl ⟨rfl, by decide, rfl⟩))
  · have := pow_over l1 (show m ≤ m + n by omega)
    rcases hS with ⟨l3, a3⟩ | ⟨l3, a3⟩
    · omega
    · rcases hP n (by omega) with ⟨l2, a2⟩ | ⟨l2, a2⟩
      · exact pows_walk b m n hm hn _ _ _ _ _ _ _ _ w htab a1 a2 a3 (Mul_nil _ _ (nil_and _)) (.inl ⟨by decide, rfl⟩)
      · exact pows_walk b m n hm hn _ _ _ _ _ _ _ _ w htab a1 a2 a3 (Mul_nil _ _ (nil_and _)) (.inl ⟨by decide, rfl⟩)

theorem pows_calls (b : Nat) (m n : Int) (hb : b < 4294967296) (w : World) (htab : Tab w) :
    Calls Tryd.prog 9 #[.int .u32 (b : Int), .int .i64 m, .int .i64 n] w fun e w' => e = .returned (.bool true) ∧ Below w.heap.size w w' := by
  by_cases h : m < 0 ∨ n < 0 ∨ 200 < m ∨ 200 < n
  · exact pows_out b m n w htab h
  · obtain ⟨k, rfl⟩ := Int.eq_ofNat_of_zero_le (show 0 ≤ m by omega)
    obtain ⟨l, rfl⟩ := Int.eq_ofNat_of_zero_le (show 0 ≤ n by omega)
    exact pows_in b k l hb (by omega) (by omega) w htab
end Go.Proofs.YtkdbiilpnijocaaDoor
