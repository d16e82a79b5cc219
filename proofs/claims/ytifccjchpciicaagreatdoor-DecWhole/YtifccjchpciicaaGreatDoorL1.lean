/- The walks of shown, cut, Cut, and of three of the laws. -/
import Derived.Test.YtifccjchpciicaaGreatDoorCt
namespace Go.Proofs.YtifccjchpciicaaGreatDoor
open Go.RowKit
open Go.Lib (decDigits nDigits)

theorem decB_15 : decB 15 = ⟨#[49, 53]⟩ := by
  have h1 := decB_step (n := 15) (by omega)
  rw [show (15 : Nat) / 10 = 1 from rfl, show (15 : Nat) % 10 = 5 from rfl, ← decB_one (n := 1) (by omega)] at h1
  rw [← h1]; rfl
theorem parse_shown : parseR [45, 49, 46, 53, 48, 101, 49, 93] = some ((true, 15, 0), [93]) := by
  have hd : decDigits 1 = [49] := by rw [Lib.decDigits_one (by omega)]; rfl
  have hn : numL 1 = [49] := by rw [numL, if_neg (by omega)]; exact hd
  have h := parse_both (n := true) (q := [49]) (f := [53, 48]) (t := [93]) (b := 101) (x := 1) (d := (true, 15, 0)) (by simp) (by decide) (.inr rfl) (by simp) (by decide) (by decide) (by omega) (by omega) (Stop.brack []) (by
    rw [show ([49] ++ [53, 48] : List UInt8) = [49, 53, 48] from rfl, makeR_more (a := 15) (k := 1) (by simp; decide) (by decide) (by decide) (by omega), if_pos ⟨Nat.le_trans (nDigits_le (k := 2) (by decide) (show (15 : Nat) < 10 ^ 2 by decide)) (by decide), by decide, by decide⟩]
    rfl)
  rw [hn] at h
  have h2 := parse_sg (n := true) (r := [49] ++ 46 :: ([53, 48] ++ 101 :: ([49] ++ [93]))) (by decide)
  rw [h] at h2
  exact h2
theorem parse_x : parseR [120] = none := by decide

/-- The first so many bytes. -/
def cutB (k : Nat) (s : ByteArray) : ByteArray := s.extract 0 (min s.size k)
theorem cutB_size (k : Nat) (s : ByteArray) : (cutB k s).size ≤ k := by rw [cutB, ByteArray.size_extract]; omega
theorem cutB_long {k : Nat} {s : ByteArray} (h : k ≤ s.size) : cutB k s = s.extract 0 k := by rw [cutB, Nat.min_eq_right h]
theorem cutB_short {k : Nat} {s : ByteArray} (h : s.size ≤ k) : cutB k s = s := by rw [cutB, Nat.min_eq_left h, ext_all]

set_option maxRecDepth 100000 in
theorem Cut_calls (n : Bool) (s : ByteArray) (e : Int) (w : World) : Calls Tryz.prog 6 #[.agg #[.bool n, .string s, .int .i64 e]] w fun o w' => o = .returned (.agg #[.bool n, .string (cutB 200 s), .int .i64 e]) ∧ Below w.heap.size w w' := by
  go_enter Tryz.func6, Tryz.ntmps6
  go_wp2
  refine bodyPost_ret (v := .agg #[.bool n, .string (s.extract 0 (min (s.size : Int) 200).toNat), .int .i64 e]) (by simp [results, Tryz.results6, go_sem]) rfl ?_
  exact ⟨by rw [cutB, ← show (min (s.size : Int) 200).toNat = min s.size 200 from by omega], ((Below.refl _ _).alloc (Nat.le_refl _) _).alloc (by simp) _⟩

/-- What lay lies. -/
theorem bcell {W w1 : World} (hb : Below W.heap.size W w1) : (∀ b o, b < W.heap.size → w1.cell? ⟨b, o, none⟩ = W.cell? ⟨b, o, none⟩) ∧ (∀ b o, b < W.heap.size → w1.frozen? ⟨b, o, none⟩ = W.frozen? ⟨b, o, none⟩) :=
  ⟨fun b o h => hb.cell (p := ⟨b, o, none⟩) h, fun b o h => hb.frozen (p := ⟨b, o, none⟩) h⟩
theorem fmt_15 : fS true ⟨#[49, 53]⟩ 0 = ⟨#[45, 49, 53]⟩ ∧ fE true ⟨#[49, 53]⟩ 0 = 0 := by
  have h : rightD true (⟨#[49, 53]⟩ : ByteArray).data.toList 0 = true := by decide
  rw [fS, fE, if_pos h, if_pos h]
  exact ⟨by rfl, rfl⟩

set_option maxRecDepth 100000 in
set_option maxHeartbeats 1000000 in
theorem shown_calls (w : World) (hT : Tb w) : Calls Tryz.prog 5 #[] w (BoolP true w) := by
  have P1 := fun W h => (Parse_calls ⟨#[45, 49, 46, 53, 48, 101, 49, 93]⟩ W (by decide) h).mono (R' := fun o w' => o = .returned (.tuple #[.agg #[.bool true, .string ⟨#[49, 53]⟩, .int .i64 0], .string ⟨#[93]⟩, .int .i64 0]) ∧ Below W.heap.size W w') (fun o w' ⟨h1, h2⟩ => ⟨by
    rw [h1, show (⟨#[45, 49, 46, 53, 48, 101, 49, 93]⟩ : ByteArray).data.toList = [45, 49, 46, 53, 48, 101, 49, 93] from rfl, parse_shown]
    simp only [pD, Option.map_some, dN, dS, dX, pR, decE, decB_15], h2⟩)
  have P2 := fun W h => (Parse_calls ⟨#[120]⟩ W (by decide) h).mono (R' := fun o w' => o = .returned (.tuple #[.agg #[.bool false, .string noB, .int .i64 0], .string ⟨#[120]⟩, .int .i64 40]) ∧ Below W.heap.size W w') (fun o w' ⟨h1, h2⟩ => ⟨by
    rw [h1, show (⟨#[120]⟩ : ByteArray).data.toList = [120] from rfl, parse_x]
    rfl, h2⟩)
  have P3 := fun W h => (Format_calls true ⟨#[49, 53]⟩ 0 W h).mono (R' := fun o w' => o = .returned (.tuple #[.string ⟨#[45, 49, 53]⟩, .int .i64 0]) ∧ Below W.heap.size W w') (fun o w' ⟨h1, h2⟩ => ⟨by rw [h1, fmt_15.1, fmt_15.2], h2⟩)
  have HP1 := Lib.hid P1
  have HP2 := Lib.hid P2
  have HP3 := Lib.hid P3
  have HT := Lib.hid hT
  clear P1 P2 P3 hT
  go_enter Tryz.func5, Tryz.ntmps5
  go_wp2_with fail
  refine (HP1.out _ HT.out).mono ?_
  rintro o w1 ⟨rfl, hb1⟩
  have HT1 := Lib.hid (HT.out.below hb1)
  have HB1 := Lib.hid hb1
  clear hb1
  go_wp2_with fail
  have HT2 := Lib.hid (HT1.out.below ((Below.refl _ w1).alloc (Nat.le_refl _) (.cells #[.bool true, .string ⟨#[49, 53]⟩, .int .i64 0] 24)))
  refine (HP3.out _ HT2.out).mono ?_
  rintro o w2 ⟨rfl, hb2⟩
  have HT3 := Lib.hid (HT2.out.below hb2)
  obtain ⟨⟨k0, k1, k2⟩, ⟨g0, g1, g2⟩, hz2, hbw⟩ := cells3 hb2
  have HB2 := Lib.hid (HB1.out.trans (hbw.mono HB1.out.size))
  clear hb2 hbw
  go_wp2_with fail
  refine (HP2.out _ HT3.out).mono ?_
  rintro o w3 ⟨rfl, hb3⟩
  obtain ⟨hc3, hf3⟩ := bcell hb3
  have HB3 := Lib.hid (HB2.out.trans (hb3.mono HB2.out.size))
  have hz3 : w1.heap.size < w3.heap.size := Nat.lt_of_lt_of_le hz2 hb3.size
  clear hb3
  go_wp2
  go_ret
  exact ⟨rfl, HB3.out.alloc HB3.out.size _⟩

/-- What a call answers in every world that holds what is wanted. -/
def Ans (f : Nat) (args : Array Value) (v : Value) : Prop := ∀ w, Tb w → Calls Tryz.prog f args w fun o w' => o = .returned v ∧ Below w.heap.size w w'

end Go.Proofs.YtifccjchpciicaaGreatDoor
