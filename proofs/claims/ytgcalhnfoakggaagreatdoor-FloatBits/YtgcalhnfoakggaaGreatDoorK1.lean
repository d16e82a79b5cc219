/- The laws' own: shown; the walk of FloatWays. -/
import Derived.Test.YtgcalhnfoakggaaGreatDoorHK
import Derived.Test.YtgcalhnfoakggaaGreatDoorHE
import Derived.Test.YtgcalhnfoakggaaGreatDoorMf
namespace Go.Proofs.YtgcalhnfoakggaaGreatDoor
open Go.RowKit
open Go.Lib (decDigits nDigits)

/-- What is answered wherever the tables lie. -/
def Ans (f : Nat) (args : Array Value) (v : Value) : Prop := ∀ w, Tf w → Calls Tryz.prog f args w fun o w' => o = .returned v ∧ Below w.heap.size w w'

theorem dec1 : decDigits 1 = [49] := by rw [Lib.decDigits_one (by omega)]; rfl
theorem decB_1 : decB 1 = ⟨#[49]⟩ := str_inj (by rw [decB_data, dec1])
theorem right1 : rightD false (decDigits 1) 0 = true := by rw [dec1]; decide
theorem od1 : ofDecR false 1 0 = some 4607182418800017408 := by decide +kernel
theorem td1 : tdR 4607182418800017408 = some (false, 1, 0) ∧ tdE 4607182418800017408 = 0 := by
  obtain ⟨_, h2, h3⟩ := turn2 right1 od1
  rw [tdR, tdE, if_pos h2, if_pos h2, h3]
  exact ⟨rfl, rfl⟩
theorem wid1 : widO 15360 16 = some 4607182418800017408 := by decide +kernel
theorem wid2 : widO 65536 16 = none := by decide +kernel
theorem odR_1 : odR false ⟨#[49]⟩ 0 = some 4607182418800017408 := by
  rw [odR, show (ByteArray.mk #[49]).data.toList = [49] from rfl, ← dec1, right1, if_pos rfl, dv_dec, od1]
theorem least1 : leastW 4607182418800017408 = 16 := by decide +kernel
theorem ans_w1 : Ans 8 #[.int .u64 15360, .int .i64 16] (.tuple #[.int .u64 4607182418800017408, .int .i64 0]) := fun W h => by
  have := Widen_calls 15360 16 W (by decide) h.1
  rw [wid1] at this; exact this
theorem ans_w2 : Ans 8 #[.int .u64 65536, .int .i64 16] (.tuple #[.int .u64 0, .int .i64 2]) := fun W h => by
  have := Widen_calls 65536 16 W (by decide) h.1
  rw [wid2] at this; exact this
theorem ans_t1 : Ans 18 #[.int .u64 4607182418800017408] (.tuple #[.agg #[.bool false, .string ⟨#[49]⟩, .int .i64 0], .int .i64 0]) := fun W h => by
  have := ToDec_calls 4607182418800017408 W (by decide) h
  unfold TdP at this
  rw [td1.1, td1.2, dS, decB_1] at this; exact this
theorem ans_o1 : Ans 20 #[.agg #[.bool false, .string ⟨#[49]⟩, .int .i64 0]] (.tuple #[.int .u64 4607182418800017408, .bool true]) := fun W h => by
  have := OfDec_calls false ⟨#[49]⟩ 0 W h
  rw [odR_1] at this; exact this
theorem ans_l1 : Ans 14 #[.int .u64 4607182418800017408] (.int .i64 16) := fun W h => by
  have := Least_calls 4607182418800017408 W (by decide) h.1
  rw [least1] at this; exact this

set_option maxRecDepth 100000 in
set_option maxHeartbeats 400000 in
theorem shown_calls (w : World) (hT : Tf w) : Calls Tryz.prog 7 #[] w (BoolP true w) := by
  have HT := Lib.hid hT
  clear hT
  go_enter Tryz.func7, Tryz.ntmps7
  go_wp2_with fail
  refine (ans_w1 _ HT.out).mono ?_
  rintro o w1 ⟨rfl, hb1⟩
  have B1 := Lib.hid hb1
  clear hb1
  go_wp2_with fail
  refine (ans_t1 _ (HT.out.below B1.out)).mono ?_
  rintro o w2 ⟨rfl, hb2⟩
  have B2 := Lib.hid (below_al (below_next B1.out hb2) (.cells #[.bool false, .string ⟨#[49]⟩, .int .i64 0] 34))
  have D2 := Lib.hid (At.new w2 #[.bool false, .string ⟨#[49]⟩, .int .i64 0] 34)
  clear hb2 B1
  go_wp2_with fail
  refine (ans_o1 _ (HT.out.below B2.out)).mono ?_
  rintro o w3 ⟨rfl, hb3⟩
  have B3 := Lib.hid (below_next B2.out hb3)
  have D3 := Lib.hid (D2.out.below hb3)
  clear hb3 B2 D2
  go_wp2_with fail
  refine (ans_w2 _ (HT.out.below B3.out)).mono ?_
  rintro o w4 ⟨rfl, hb4⟩
  have B4 := Lib.hid (below_next B3.out hb4)
  have D4 := Lib.hid (D3.out.below hb4)
  clear hb4 B3 D3
  have c0 := D4.out.c 0 rfl
  have c1 := D4.out.c 1 rfl
  have c2 := D4.out.c 2 rfl
  go_wp2_with fail
  refine (ans_l1 _ (HT.out.below B4.out)).mono ?_
  rintro o w5 ⟨rfl, hb5⟩
  have B5 := Lib.hid (below_next B4.out hb5)
  clear hb5
  go_wp2
  go_ret
  exact ⟨rfl, B5.out⟩
end Go.Proofs.YtgcalhnfoakggaaGreatDoor
