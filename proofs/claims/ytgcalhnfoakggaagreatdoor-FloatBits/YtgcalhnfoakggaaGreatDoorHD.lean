/- The program's own: Widen, Narrow, IsWidth, IsFinite. -/
import Derived.Test.YtgcalhnfoakggaaGreatDoorMh3
import Derived.Test.YtgcalhnfoakggaaGreatDoorHC
namespace Go.Proofs.YtgcalhnfoakggaaGreatDoor
open Go.RowKit

/-- The listed tables that widths want. -/
def Tw (w : World) : Prop := FrmT w ∧ BruT w
theorem Tw.below {A B : World} (h : Tw A) (hb : Below A.heap.size A B) : Tw B := ⟨h.1.below hb, h.2.below hb⟩
def wdV : Option Nat → Value
  | some c => .tuple #[.int .u64 (c : Int), .int .i64 0]
  | none => .tuple #[.int .u64 0, .int .i64 2]
theorem sgn64 {b : Nat} (h : b < 18446744073709551616) : b / 2 ^ 52 / 2 ^ 11 < 2 := by rw [e52]; omega

theorem turn_to_16 (b : Nat) (w : World) (hb : b < 65536) (hT : BruT w) : Calls Tryz.prog 23 #[.int .u64 (b : Int), .agg #[.int .i64 5, .int .i64 10, .int .i64 16], .agg #[.int .i64 11, .int .i64 52, .int .i64 64]] w fun o w' => o = .returned (.tuple #[.int .u64 ((wid16 b : Nat) : Int), .bool true]) ∧ Below w.heap.size w w' := by
  have := turn_calls 5 10 16 11 52 64 (-24) (-1074) b w (.inl ⟨rfl, rfl, rfl, rfl⟩) (.inr (.inr ⟨rfl, rfl, rfl, rfl⟩)) (.inr rfl) (by omega) (by rw [e10]; omega) hT
  rw [show trn (2 ^ 5) 10 (-24) (2 ^ 11) 52 (-1074) b = some (wid16 b) from wid16_trn hb] at this
  exact this
theorem turn_to_32 (b : Nat) (w : World) (hb : b < 4294967296) (hT : BruT w) : Calls Tryz.prog 23 #[.int .u64 (b : Int), .agg #[.int .i64 8, .int .i64 23, .int .i64 32], .agg #[.int .i64 11, .int .i64 52, .int .i64 64]] w fun o w' => o = .returned (.tuple #[.int .u64 ((wid32 b : Nat) : Int), .bool true]) ∧ Below w.heap.size w w' := by
  have := turn_calls 8 23 32 11 52 64 (-149) (-1074) b w (.inr (.inl ⟨rfl, rfl, rfl, rfl⟩)) (.inr (.inr ⟨rfl, rfl, rfl, rfl⟩)) (.inr rfl) (by omega) (by rw [e23]; omega) hT
  rw [show trn (2 ^ 8) 23 (-149) (2 ^ 11) 52 (-1074) b = some (wid32 b) from wid32_trn hb] at this
  exact this
theorem turn_to_64 (b : Nat) (w : World) (hb : b < 18446744073709551616) (hT : BruT w) : Calls Tryz.prog 23 #[.int .u64 (b : Int), .agg #[.int .i64 11, .int .i64 52, .int .i64 64], .agg #[.int .i64 11, .int .i64 52, .int .i64 64]] w fun o w' => o = .returned (.tuple #[.int .u64 (b : Int), .bool true]) ∧ Below w.heap.size w w' := by
  have := turn_calls 11 52 64 11 52 64 (-1074) (-1074) b w (.inr (.inr ⟨rfl, rfl, rfl, rfl⟩)) (.inr (.inr ⟨rfl, rfl, rfl, rfl⟩)) (.inr rfl) hb (sgn64 hb) hT
  rw [show trn (2 ^ 11) 52 (-1074) (2 ^ 11) 52 (-1074) b = some b from id64_trn b] at this
  exact this
theorem turn_from (x : Fin 3) (b : Nat) (w : World) (hb : b < 18446744073709551616) (hT : BruT w) : Calls Tryz.prog 23 #[.int .u64 (b : Int), .agg #[.int .i64 11, .int .i64 52, .int .i64 64], .agg #[.int .i64 (frK x), .int .i64 (frP x), .int .i64 (frW x)]] w fun o w' => o = .returned (trV (narO b (frW x))) ∧ Below w.heap.size w w' := by
  match x with
  | 0 =>
    have := turn_calls 11 52 64 5 10 16 (-1074) (-24) b w (.inr (.inr ⟨rfl, rfl, rfl, rfl⟩)) (.inl ⟨rfl, rfl, rfl, rfl⟩) (.inl rfl) hb (sgn64 hb) hT
    rw [show trn (2 ^ 11) 52 (-1074) (2 ^ 5) 10 (-24) b = narO b 16 from nar16_trn hb] at this
    exact this
  | 1 =>
    have := turn_calls 11 52 64 8 23 32 (-1074) (-149) b w (.inr (.inr ⟨rfl, rfl, rfl, rfl⟩)) (.inr (.inl ⟨rfl, rfl, rfl, rfl⟩)) (.inl rfl) hb (sgn64 hb) hT
    rw [show trn (2 ^ 11) 52 (-1074) (2 ^ 8) 23 (-149) b = narO b 32 from nar32_trn hb] at this
    exact this
  | 2 =>
    have := turn_to_64 b w hb hT
    exact this

set_option maxRecDepth 100000 in
set_option maxHeartbeats 400000 in
theorem Widen_none (b : Nat) (wd : Int) (w : World) (h : frO wd = none) (hT : Tw w) : Calls Tryz.prog 8 #[.int .u64 (b : Int), .int .i64 wd] w fun o w' => o = .returned (.tuple #[.int .u64 0, .int .i64 2]) ∧ Below w.heap.size w w' := by
  have HF := Lib.hid (formOf_calls wd w hT.1)
  rw [h] at HF
  simp only [foV] at HF
  clear h hT
  go_enter Tryz.func8, Tryz.ntmps8
  go_wp2_with fail
  refine HF.out.mono ?_
  rintro o w1 ⟨rfl, hb1⟩
  have B1 := Lib.hid (below_al hb1 (.cells #[.int .i64 0, .int .i64 0, .int .i64 0] 42))
  clear hb1
  go_wp2
  go_ret2
  exact ⟨rfl, B1.out⟩

set_option maxRecDepth 100000 in
set_option maxHeartbeats 400000 in
theorem Widen_much_16 (b : Nat) (w : World) (hb : 65536 ≤ b) (hT : Tw w) : Calls Tryz.prog 8 #[.int .u64 (b : Int), .int .i64 16] w fun o w' => o = .returned (.tuple #[.int .u64 0, .int .i64 2]) ∧ Below w.heap.size w w' := by
  have HF := Lib.hid (formOf_calls 16 w hT.1)
  simp only [show frO 16 = some 0 from rfl, foV, frK, frP, frW] at HF
  have hd : ((b : Int) / 65536 != 0) = true := by simp; omega
  clear hT hb
  go_enter Tryz.func8, Tryz.ntmps8
  go_wp2_with fail
  refine HF.out.mono ?_
  rintro o w1 ⟨rfl, hb1⟩
  have B1 := Lib.hid (below_al hb1 (.cells #[.int .i64 5, .int .i64 10, .int .i64 16] 42))
  clear hb1
  go_wp2
  go_ret2
  exact ⟨rfl, B1.out⟩

set_option maxRecDepth 100000 in
set_option maxHeartbeats 400000 in
theorem Widen_16 (b : Nat) (w : World) (hb : b < 65536) (hT : Tw w) : Calls Tryz.prog 8 #[.int .u64 (b : Int), .int .i64 16] w fun o w' => o = .returned (.tuple #[.int .u64 ((wid16 b : Nat) : Int), .int .i64 0]) ∧ Below w.heap.size w w' := by
  have HF := Lib.hid (formOf_calls 16 w hT.1)
  simp only [show frO 16 = some 0 from rfl, foV, frK, frP, frW] at HF
  have HT := Lib.hid hT
  have HU := Lib.hid (fun W h => turn_to_16 b W hb h)
  have hd : ((b : Int) / 65536 != 0) = false := by
    have h1 : (b : Int) / 65536 = 0 := by omega
    rw [h1]; rfl
  obtain ⟨c, hc⟩ : ∃ c, c = wid16 b := ⟨_, rfl⟩
  rw [← hc] at HU ⊢
  clear hT hb hc
  go_enter Tryz.func8, Tryz.ntmps8
  go_wp2_with fail
  refine HF.out.mono ?_
  rintro o w1 ⟨rfl, hb1⟩
  have B1 := Lib.hid (below_al hb1 (.cells #[.int .i64 5, .int .i64 10, .int .i64 16] 42))
  have A1 := Lib.hid (At.new w1 #[.int .i64 5, .int .i64 10, .int .i64 16] 42)
  obtain ⟨n1, hn1⟩ : ∃ n, n = w1.heap.size := ⟨_, rfl⟩
  obtain ⟨W1, hW1⟩ : ∃ W, W = w1.alloc (.cells #[.int .i64 5, .int .i64 10, .int .i64 16] 42) := ⟨_, rfl⟩
  clear hb1
  go_wp2_with fail
  rw [← hW1] at A1 B1 ⊢
  rw [← hn1] at A1 ⊢
  clear hW1 hn1
  have A1d := Lib.hid (show At W1.drew _ _ _ from A1.out)
  have B1d := Lib.hid B1.out.drew
  clear A1 B1
  go_region_held3 (fun w' => w'.cell? ⟨n1, 0, none⟩ = some (.int .i64 5) ∧ w'.cell? ⟨n1, 1, none⟩ = some (.int .i64 10) ∧ w'.cell? ⟨n1, 2, none⟩ = some (.int .i64 16))
    (first
      | exact ⟨A1d.out.c 0 rfl, A1d.out.c 1 rfl, A1d.out.c 2 rfl⟩
      | exact ⟨A2.out.c 0 rfl, A2.out.c 1 rfl, A2.out.c 2 rfl⟩
      | exact ⟨A3.out.c 0 rfl, A3.out.c 1 rfl, A3.out.c 2 rfl⟩)
    ((first
      | (go_at_call 24; refine (widest_calls _ (HT.out.below B1d.out).1).mono ?_; rintro o w2 ⟨rfl, hb2⟩; unfold fmV; have A2 := Lib.hid (A1d.out.below hb2); have B2 := Lib.hid (below_next B1d.out hb2); clear hb2)
      | (go_at_call 23; refine (HU.out _ (HT.out.below B2.out).2).mono ?_; rintro o w3 ⟨rfl, hb3⟩; have A3 := Lib.hid (A2.out.below hb3); have B3 := Lib.hid (below_next B2.out hb3); clear hb3)))
  all_goals
    go_wp2
    go_ret2
    exact ⟨rfl, B3.out⟩

set_option maxRecDepth 100000 in
set_option maxHeartbeats 400000 in
theorem Widen_much_32 (b : Nat) (w : World) (hb : 4294967296 ≤ b) (hT : Tw w) : Calls Tryz.prog 8 #[.int .u64 (b : Int), .int .i64 32] w fun o w' => o = .returned (.tuple #[.int .u64 0, .int .i64 2]) ∧ Below w.heap.size w w' := by
  have HF := Lib.hid (formOf_calls 32 w hT.1)
  simp only [show frO 32 = some 1 from rfl, foV, frK, frP, frW] at HF
  have hd : ((b : Int) / 4294967296 != 0) = true := by simp; omega
  clear hT hb
  go_enter Tryz.func8, Tryz.ntmps8
  go_wp2_with fail
  refine HF.out.mono ?_
  rintro o w1 ⟨rfl, hb1⟩
  have B1 := Lib.hid (below_al hb1 (.cells #[.int .i64 8, .int .i64 23, .int .i64 32] 42))
  clear hb1
  go_wp2
  go_ret2
  exact ⟨rfl, B1.out⟩

set_option maxRecDepth 100000 in
set_option maxHeartbeats 400000 in
theorem Widen_32 (b : Nat) (w : World) (hb : b < 4294967296) (hT : Tw w) : Calls Tryz.prog 8 #[.int .u64 (b : Int), .int .i64 32] w fun o w' => o = .returned (.tuple #[.int .u64 ((wid32 b : Nat) : Int), .int .i64 0]) ∧ Below w.heap.size w w' := by
  have HF := Lib.hid (formOf_calls 32 w hT.1)
  simp only [show frO 32 = some 1 from rfl, foV, frK, frP, frW] at HF
  have HT := Lib.hid hT
  have HU := Lib.hid (fun W h => turn_to_32 b W hb h)
  have hd : ((b : Int) / 4294967296 != 0) = false := by
    have h1 : (b : Int) / 4294967296 = 0 := by omega
    rw [h1]; rfl
  obtain ⟨c, hc⟩ : ∃ c, c = wid32 b := ⟨_, rfl⟩
  rw [← hc] at HU ⊢
  clear hT hb hc
  go_enter Tryz.func8, Tryz.ntmps8
  go_wp2_with fail
  refine HF.out.mono ?_
  rintro o w1 ⟨rfl, hb1⟩
  have B1 := Lib.hid (below_al hb1 (.cells #[.int .i64 8, .int .i64 23, .int .i64 32] 42))
  have A1 := Lib.hid (At.new w1 #[.int .i64 8, .int .i64 23, .int .i64 32] 42)
  obtain ⟨n1, hn1⟩ : ∃ n, n = w1.heap.size := ⟨_, rfl⟩
  obtain ⟨W1, hW1⟩ : ∃ W, W = w1.alloc (.cells #[.int .i64 8, .int .i64 23, .int .i64 32] 42) := ⟨_, rfl⟩
  clear hb1
  go_wp2_with fail
  rw [← hW1] at A1 B1 ⊢
  rw [← hn1] at A1 ⊢
  clear hW1 hn1
  have A1d := Lib.hid (show At W1.drew _ _ _ from A1.out)
  have B1d := Lib.hid B1.out.drew
  clear A1 B1
  go_region_held3 (fun w' => w'.cell? ⟨n1, 0, none⟩ = some (.int .i64 8) ∧ w'.cell? ⟨n1, 1, none⟩ = some (.int .i64 23) ∧ w'.cell? ⟨n1, 2, none⟩ = some (.int .i64 32))
    (first
      | exact ⟨A1d.out.c 0 rfl, A1d.out.c 1 rfl, A1d.out.c 2 rfl⟩
      | exact ⟨A2.out.c 0 rfl, A2.out.c 1 rfl, A2.out.c 2 rfl⟩
      | exact ⟨A3.out.c 0 rfl, A3.out.c 1 rfl, A3.out.c 2 rfl⟩)
    ((first
      | (go_at_call 24; refine (widest_calls _ (HT.out.below B1d.out).1).mono ?_; rintro o w2 ⟨rfl, hb2⟩; unfold fmV; have A2 := Lib.hid (A1d.out.below hb2); have B2 := Lib.hid (below_next B1d.out hb2); clear hb2)
      | (go_at_call 23; refine (HU.out _ (HT.out.below B2.out).2).mono ?_; rintro o w3 ⟨rfl, hb3⟩; have A3 := Lib.hid (A2.out.below hb3); have B3 := Lib.hid (below_next B2.out hb3); clear hb3)))
  all_goals
    go_wp2
    go_ret2
    exact ⟨rfl, B3.out⟩

set_option maxRecDepth 100000 in
set_option maxHeartbeats 400000 in
theorem Widen_64 (b : Nat) (w : World) (hb : b < 18446744073709551616) (hT : Tw w) : Calls Tryz.prog 8 #[.int .u64 (b : Int), .int .i64 64] w fun o w' => o = .returned (.tuple #[.int .u64 ((b : Nat) : Int), .int .i64 0]) ∧ Below w.heap.size w w' := by
  have HF := Lib.hid (formOf_calls 64 w hT.1)
  simp only [show frO 64 = some 2 from rfl, foV, frK, frP, frW] at HF
  have HT := Lib.hid hT
  have HU := Lib.hid (fun W h => turn_to_64 b W hb h)
  have hd : ((b : Int) / 18446744073709551616 != 0) = false := by
    have h1 : (b : Int) / 18446744073709551616 = 0 := by omega
    rw [h1]; rfl
  clear hT hb
  go_enter Tryz.func8, Tryz.ntmps8
  go_wp2_with fail
  refine HF.out.mono ?_
  rintro o w1 ⟨rfl, hb1⟩
  have B1 := Lib.hid (below_al hb1 (.cells #[.int .i64 11, .int .i64 52, .int .i64 64] 42))
  have A1 := Lib.hid (At.new w1 #[.int .i64 11, .int .i64 52, .int .i64 64] 42)
  obtain ⟨n1, hn1⟩ : ∃ n, n = w1.heap.size := ⟨_, rfl⟩
  obtain ⟨W1, hW1⟩ : ∃ W, W = w1.alloc (.cells #[.int .i64 11, .int .i64 52, .int .i64 64] 42) := ⟨_, rfl⟩
  clear hb1
  go_wp2_with fail
  rw [← hW1] at A1 B1 ⊢
  rw [← hn1] at A1 ⊢
  clear hW1 hn1
  have A1d := Lib.hid (show At W1.drew _ _ _ from A1.out)
  have B1d := Lib.hid B1.out.drew
  clear A1 B1
  go_region_held3 (fun w' => w'.cell? ⟨n1, 0, none⟩ = some (.int .i64 11) ∧ w'.cell? ⟨n1, 1, none⟩ = some (.int .i64 52) ∧ w'.cell? ⟨n1, 2, none⟩ = some (.int .i64 64))
    (first
      | exact ⟨A1d.out.c 0 rfl, A1d.out.c 1 rfl, A1d.out.c 2 rfl⟩
      | exact ⟨A2.out.c 0 rfl, A2.out.c 1 rfl, A2.out.c 2 rfl⟩
      | exact ⟨A3.out.c 0 rfl, A3.out.c 1 rfl, A3.out.c 2 rfl⟩)
    ((first
      | (go_at_call 24; refine (widest_calls _ (HT.out.below B1d.out).1).mono ?_; rintro o w2 ⟨rfl, hb2⟩; unfold fmV; have A2 := Lib.hid (A1d.out.below hb2); have B2 := Lib.hid (below_next B1d.out hb2); clear hb2)
      | (go_at_call 23; refine (HU.out _ (HT.out.below B2.out).2).mono ?_; rintro o w3 ⟨rfl, hb3⟩; have A3 := Lib.hid (A2.out.below hb3); have B3 := Lib.hid (below_next B2.out hb3); clear hb3)))
  all_goals
    go_wp2
    go_ret2
    exact ⟨rfl, B3.out⟩

theorem Widen_calls (b : Nat) (wd : Int) (w : World) (hb : b < 18446744073709551616) (hT : Tw w) : Calls Tryz.prog 8 #[.int .u64 (b : Int), .int .i64 wd] w fun o w' => o = .returned (wdV (widO b wd)) ∧ Below w.heap.size w w' := by
  rw [widO]
  by_cases h16 : wd = 16
  · subst h16
    rw [if_pos rfl]
    by_cases h : b < 65536
    · rw [if_pos h]; exact Widen_16 b w h hT
    · rw [if_neg h]; exact Widen_much_16 b w (by omega) hT
  rw [if_neg h16]
  by_cases h32 : wd = 32
  · subst h32
    rw [if_pos rfl]
    by_cases h : b < 4294967296
    · rw [if_pos h]; exact Widen_32 b w h hT
    · rw [if_neg h]; exact Widen_much_32 b w (by omega) hT
  rw [if_neg h32]
  by_cases h64 : wd = 64
  · subst h64
    rw [if_pos rfl]; exact Widen_64 b w hb hT
  rw [if_neg h64]
  exact Widen_none b wd w (by rw [frO, if_neg h16, if_neg h32, if_neg h64]) hT

set_option maxRecDepth 100000 in
set_option maxHeartbeats 400000 in
theorem Narrow_none (b : Nat) (wd : Int) (w : World) (h : frO wd = none) (hT : Tw w) : Calls Tryz.prog 10 #[.int .u64 (b : Int), .int .i64 wd] w fun o w' => o = .returned (.tuple #[.int .u64 0, .bool false]) ∧ Below w.heap.size w w' := by
  have HF := Lib.hid (formOf_calls wd w hT.1)
  rw [h] at HF
  simp only [foV] at HF
  clear h hT
  go_enter Tryz.func10, Tryz.ntmps10
  go_wp2_with fail
  refine HF.out.mono ?_
  rintro o w1 ⟨rfl, hb1⟩
  have B1 := Lib.hid (below_al hb1 (.cells #[.int .i64 0, .int .i64 0, .int .i64 0] 42))
  clear hb1
  go_wp2
  go_ret2
  exact ⟨rfl, B1.out⟩

set_option maxRecDepth 100000 in
set_option maxHeartbeats 400000 in
theorem Narrow_some (x : Fin 3) (b : Nat) (wd : Int) (w : World) (h : frO wd = some x) (hx : frW x = wd) (hb : b < 18446744073709551616) (hT : Tw w) : Calls Tryz.prog 10 #[.int .u64 (b : Int), .int .i64 wd] w fun o w' => o = .returned (trV (narO b wd)) ∧ Below w.heap.size w w' := by
  have HF := Lib.hid (formOf_calls wd w hT.1)
  rw [h] at HF
  simp only [foV] at HF
  have HT := Lib.hid hT
  have HU := Lib.hid (fun W h => turn_from x b W hb h)
  rw [hx] at HU HF
  obtain ⟨R, hR⟩ : ∃ R, R = narO b wd := ⟨_, rfl⟩
  rw [← hR] at HU ⊢
  clear h hT hb hR hx
  rcases R with _ | c
  all_goals
    simp only [trV] at HU
    go_enter Tryz.func10, Tryz.ntmps10
    go_wp2_with fail
    refine HF.out.mono ?_
    rintro o w1 ⟨rfl, hb1⟩
    have B1 := Lib.hid (below_al hb1 (.cells #[.int .i64 (frK x), .int .i64 (frP x), .int .i64 wd] 42))
    have A1 := Lib.hid (At.new w1 #[.int .i64 (frK x), .int .i64 (frP x), .int .i64 wd] 42)
    obtain ⟨n1, hn1⟩ : ∃ n, n = w1.heap.size := ⟨_, rfl⟩
    obtain ⟨W1, hW1⟩ : ∃ W, W = w1.alloc (.cells #[.int .i64 (frK x), .int .i64 (frP x), .int .i64 wd] 42) := ⟨_, rfl⟩
    clear hb1
    go_wp2_with fail
    rw [← hW1] at A1 B1 ⊢
    rw [← hn1] at A1 ⊢
    clear hW1 hn1
    have A1d := Lib.hid (show At W1.drew _ _ _ from A1.out)
    have B1d := Lib.hid B1.out.drew
    clear A1 B1
    go_region_held3 (fun w' => w'.cell? ⟨n1, 0, none⟩ = some (.int .i64 (frK x)) ∧ w'.cell? ⟨n1, 1, none⟩ = some (.int .i64 (frP x)) ∧ w'.cell? ⟨n1, 2, none⟩ = some (.int .i64 wd))
      (first
        | exact ⟨A1d.out.c 0 rfl, A1d.out.c 1 rfl, A1d.out.c 2 rfl⟩
        | exact ⟨A2.out.c 0 rfl, A2.out.c 1 rfl, A2.out.c 2 rfl⟩
        | exact ⟨A3.out.c 0 rfl, A3.out.c 1 rfl, A3.out.c 2 rfl⟩)
      ((first
        | (go_at_call 24; refine (widest_calls _ (HT.out.below B1d.out).1).mono ?_; rintro o w2 ⟨rfl, hb2⟩; unfold fmV; have A2 := Lib.hid (A1d.out.below hb2); have B2 := Lib.hid (below_next B1d.out hb2); clear hb2)
        | (go_at_call 23; refine (HU.out _ (HT.out.below B2.out).2).mono ?_; rintro o w3 ⟨rfl, hb3⟩; have A3 := Lib.hid (A2.out.below hb3); have B3 := Lib.hid (below_next B2.out hb3); clear hb3)))
    all_goals
      go_wp2
      go_ret2
      exact ⟨rfl, B3.out⟩
theorem frO_is {wd : Int} {x : Fin 3} (h : frO wd = some x) : frW x = wd := by
  rw [frO] at h
  split at h
  · cases h; rename_i h1; exact h1.symm
  · split at h
    · cases h; rename_i h1; exact h1.symm
    · split at h
      · cases h; rename_i h1; exact h1.symm
      · cases h
theorem Narrow_calls (b : Nat) (wd : Int) (w : World) (hb : b < 18446744073709551616) (hT : Tw w) : Calls Tryz.prog 10 #[.int .u64 (b : Int), .int .i64 wd] w fun o w' => o = .returned (trV (narO b wd)) ∧ Below w.heap.size w w' := by
  cases h : frO wd with
  | some x => exact Narrow_some x b wd w h (frO_is h) hb hT
  | none =>
    have h16 : wd ≠ 16 := fun e => by subst e; cases h
    have h32 : wd ≠ 32 := fun e => by subst e; cases h
    have h64 : wd ≠ 64 := fun e => by subst e; cases h
    rw [narO, if_neg h16, if_neg h32, if_neg h64]
    exact Narrow_none b wd w h hT

theorem fld0 (w : World) : (Instr.field 42 (.agg #[.int .i64 11, .int .i64 52, .int .i64 64]) 0).run Tryz.prog w = .ok (.agg #[.int .i64 11, .int .i64 52]) w := by
  simp [Instr.field, run_underlying Tryz.underlying42, go_sem, part, asAgg, Tryz.sizeOf40, Tryz.isAgg40]
set_option maxRecDepth 100000 in
set_option maxHeartbeats 400000 in
theorem IsFinite_calls (b : Nat) (w : World) (hb : b < 18446744073709551616) (hT : Tw w) : Calls Tryz.prog 16 #[.int .u64 (b : Int)] w fun o w' => o = .returned (.bool (isFin b)) ∧ Below w.heap.size w w' := by
  have HS := Lib.hid (fun W => split_calls 11 52 64 (-1074) b W (.inr (.inr ⟨rfl, rfl, rfl, rfl⟩)) hb)
  have HF := Lib.hid (fun W => full_calls 11 52 W (.inr (.inr rfl)))
  have HT := Lib.hid hT
  have hd : (((b / 2 ^ 52 % 2 ^ 11 : Nat) : Int) != 2047) = isFin b := by
    rw [isFin, e52, show (2 : Nat) ^ 11 = 2048 from by decide, Bool.eq_iff_iff]
    simp
    omega
  obtain ⟨s, hs⟩ : ∃ s, s = b / 2 ^ 52 / 2 ^ 11 := ⟨_, rfl⟩
  obtain ⟨e, he⟩ : ∃ e, e = b / 2 ^ 52 % 2 ^ 11 := ⟨_, rfl⟩
  obtain ⟨f, hf⟩ : ∃ f, f = b % 2 ^ 52 := ⟨_, rfl⟩
  obtain ⟨d, hdd⟩ : ∃ d, d = isFin b := ⟨_, rfl⟩
  rw [← hs, ← he, ← hf] at HS
  rw [← he, ← hdd] at hd
  rw [← hdd]
  clear hs he hf hdd hT hb
  unfold fmV at HS
  have hfl := fld0
  go_enter Tryz.func16, Tryz.ntmps16
  go_wp2_with fail
  refine (widest_calls _ HT.out.1).mono ?_
  rintro o w1 ⟨rfl, hb1⟩
  have B1 := Lib.hid hb1
  clear hb1
  unfold fmV
  go_wp2_with fail
  refine (HS.out _).mono ?_
  rintro o w2 ⟨rfl, hb2⟩
  have B2 := Lib.hid (below_next B1.out hb2)
  clear hb2
  go_wp2_with fail
  refine (widest_calls _ (HT.out.below B2.out).1).mono ?_
  rintro o w3 ⟨rfl, hb3⟩
  have B3 := Lib.hid (below_next B2.out hb3)
  clear hb3
  unfold fmV
  go_wp2_with fail
  refine (HF.out _).mono ?_
  rintro o w4 ⟨rfl, hb4⟩
  have B4 := Lib.hid (below_next B3.out hb4)
  clear hb4
  go_wp2
  go_ret
  exact ⟨rfl, B4.out⟩
end Go.Proofs.YtgcalhnfoakggaaGreatDoor
