/- The program's own: place. -/
import Derived.Test.YtppapkpceejnkaaGreatDoorMg
import Derived.Test.YtppapkpceejnkaaGreatDoorSh
namespace Go.Proofs.YtppapkpceejnkaaGreatDoor
open Go.RowKit

theorem bitLen_log {o : Nat} (h0 : o ≠ 0) (h : o < 18446744073709551616) : Lib.bitLen o = o.log2 + 1 := by
  have h1 : 2 ^ o.log2 ≤ o := Nat.log2_self_le h0
  have h2 : o < 2 ^ (o.log2 + 1) := Nat.lt_log2_self
  rw [Lib.bitLen_shift o.log2 o h1 (by rw [e64]; exact h)]
  have h3 : o / 2 ^ o.log2 = 1 := by
    refine (Nat.div_eq_iff (Nat.pow_pos (by decide))).2 ⟨by omega, ?_⟩
    rw [Nat.pow_succ] at h2; omega
  rw [h3]; rfl
theorem len_calls (o : Nat) (w : World) (h0 : o ≠ 0) (h : o < 18446744073709551616) : Calls Tryz.prog 221 #[.int .u64 (o : Int)] w fun e w' => e = .returned (.int .i64 ((o.log2 + 1 : Nat) : Int)) ∧ w' = w := by
  have := Tryz.bits_Len64 (o : Int) w (by omega) (by omega)
  rwa [Int.toNat_natCast, bitLen_log h0 h] at this
/-- What is told of a place. -/
def plV : Option (Nat × Nat) → Value
  | some v => .tuple #[.int .u64 (v.1 : Int), .int .u64 (v.2 : Int), .bool true]
  | none => .tuple #[.int .u64 0, .int .u64 0, .bool false]

set_option maxRecDepth 100000 in
set_option maxHeartbeats 400000 in
theorem place_zero_16 (X : Int) (w : World) :
    Calls Tryz.prog 199 #[fmV 5 10 16, .agg #[.int .u64 0, .int .i64 X]] w fun o w' => o = .returned (.tuple #[.int .u64 0, .int .u64 0, .bool true]) ∧ Below w.heap.size w w' := by
  unfold fmV
  go_enter Tryz.func199, Tryz.ntmps199
  go_wp2
  go_ret3
  exact ⟨rfl, ((Below.refl _ _).alloc (Nat.le_refl _) _).alloc (by simp) _⟩

set_option maxRecDepth 100000 in
set_option maxHeartbeats 400000 in
theorem place_neg_16 (o len : Nat) (X S E : Int)  (w : World) (h0 : o ≠ 0) (ho : o < 18446744073709551616) (hlen : o.log2 + 1 = len) (hX1 : -100000 ≤ X) (hX2 : X ≤ 100000) (hS : S = X - (-24)) (hE : E = S + (len : Int) - 10) (hl64 : len ≤ 64) (hc : S < 0) :
    Calls Tryz.prog 199 #[fmV 5 10 16, .agg #[.int .u64 (o : Int), .int .i64 X]] w fun o w' => o = .returned (.tuple #[.int .u64 0, .int .u64 0, .bool false]) ∧ Below w.heap.size w w' := by
  have hw1 : IntKind.i64.wrap (X - (-24)) = S := (IntWalk.i64_in _ (by omega)).trans hS.symm
  have hw2 : IntKind.i64.wrap (X + 24) = S := (IntWalk.i64_in _ (by omega)).trans (by omega)
  have hSb1 : -200000 ≤ S := by omega
  have hSb2 : S ≤ 200000 := by omega
  have hEe : S + (len : Int) - 10 = E := hE.symm
  have h0i : ((o : Int) == 0) = false := by simpa using h0
  have HN := Lib.hid (fun W => len_calls o W h0 ho)
  rw [hlen] at HN
  have HL := Lib.hid (fun W => least_calls 5 10 (-24) W (by omega))
  have HF := Lib.hid (fun W => full_calls 5 10 W (by omega))
  unfold fmV
  have B0 := Lib.hid (((Below.refl _ w).alloc (Nat.le_refl _) (.cells #[.int .i64 5, .int .i64 10, .int .i64 16] 227)).alloc (by simp) (.cells #[.int .u64 (o : Int), .int .i64 X] 262))
  have A0 := Lib.hid (At.new1 w (.cells #[.int .i64 5, .int .i64 10, .int .i64 16] 227) #[.int .u64 (o : Int), .int .i64 X] 262)
  have F0 := Lib.hid ((At.new w #[.int .i64 5, .int .i64 10, .int .i64 16] 227).alloc (.cells #[.int .u64 (o : Int), .int .i64 X] 262))
  obtain ⟨W0, hW0⟩ : ∃ W0, W0 = (w.alloc (.cells #[.int .i64 5, .int .i64 10, .int .i64 16] 227)).alloc (.cells #[.int .u64 (o : Int), .int .i64 X] 262) := ⟨_, rfl⟩
  rw [← hW0] at B0 A0 F0
  have d1 : decide (S < 0) = true := by simpa using hc
  clear hE hS hlen h0 ho hX1 hX2
  go_enter Tryz.func199, Tryz.ntmps199
  go_wp2_with fail
  refine (HN.out _).mono ?_
  rintro e w1 ⟨rfl, rfl⟩
  go_wp2_with fail
  rw [← hW0]
  clear hW0
  have A0d := Lib.hid (show At W0.drew _ _ _ from A0.out)
  have F0d := Lib.hid (show At W0.drew _ _ _ from F0.out)
  have B0d := Lib.hid B0.out.drew
  clear A0 F0 B0
  go_region_held3 (fun w' => w'.cell? ⟨w.heap.size, 0, none⟩ = some (.int .i64 5) ∧ w'.cell? ⟨w.heap.size, 1, none⟩ = some (.int .i64 10) ∧ w'.cell? ⟨w.heap.size + 1, 1, none⟩ = some (.int .i64 X))
    (first
      | exact ⟨F0d.out.c 0 rfl, F0d.out.c 1 rfl, A0d.out.c 1 rfl⟩
      | exact ⟨F1.out.c 0 rfl, F1.out.c 1 rfl, A1.out.c 1 rfl⟩)
    ((go_at_call 222; refine (HL.out _).mono ?_; rintro o w1 ⟨rfl, hb1⟩; have A1 := Lib.hid (A0d.out.below hb1); have F1 := Lib.hid (F0d.out.below hb1); have B1 := Lib.hid (below_next B0d.out hb1); clear hb1))
  all_goals
    clear A0d F0d B0d
    have p0 := F1.out.c 0 rfl
    have p1 := F1.out.c 1 rfl
    have q0 := A1.out.c 0 rfl
    go_wp2
    go_ret3
    exact ⟨rfl, B1.out⟩

set_option maxRecDepth 100000 in
set_option maxHeartbeats 400000 in
theorem place_long_16 (o len : Nat) (X S E : Int)  (w : World) (h0 : o ≠ 0) (ho : o < 18446744073709551616) (hlen : o.log2 + 1 = len) (hX1 : -100000 ≤ X) (hX2 : X ≤ 100000) (hS : S = X - (-24)) (hE : E = S + (len : Int) - 10) (hl64 : len ≤ 64) (hc : 0 ≤ S) (hc2 : 11 < (len : Int)) :
    Calls Tryz.prog 199 #[fmV 5 10 16, .agg #[.int .u64 (o : Int), .int .i64 X]] w fun o w' => o = .returned (.tuple #[.int .u64 0, .int .u64 0, .bool false]) ∧ Below w.heap.size w w' := by
  have hw1 : IntKind.i64.wrap (X - (-24)) = S := (IntWalk.i64_in _ (by omega)).trans hS.symm
  have hw2 : IntKind.i64.wrap (X + 24) = S := (IntWalk.i64_in _ (by omega)).trans (by omega)
  have hSb1 : -200000 ≤ S := by omega
  have hSb2 : S ≤ 200000 := by omega
  have hEe : S + (len : Int) - 10 = E := hE.symm
  have h0i : ((o : Int) == 0) = false := by simpa using h0
  have HN := Lib.hid (fun W => len_calls o W h0 ho)
  rw [hlen] at HN
  have HL := Lib.hid (fun W => least_calls 5 10 (-24) W (by omega))
  have HF := Lib.hid (fun W => full_calls 5 10 W (by omega))
  unfold fmV
  have B0 := Lib.hid (((Below.refl _ w).alloc (Nat.le_refl _) (.cells #[.int .i64 5, .int .i64 10, .int .i64 16] 227)).alloc (by simp) (.cells #[.int .u64 (o : Int), .int .i64 X] 262))
  have A0 := Lib.hid (At.new1 w (.cells #[.int .i64 5, .int .i64 10, .int .i64 16] 227) #[.int .u64 (o : Int), .int .i64 X] 262)
  have F0 := Lib.hid ((At.new w #[.int .i64 5, .int .i64 10, .int .i64 16] 227).alloc (.cells #[.int .u64 (o : Int), .int .i64 X] 262))
  obtain ⟨W0, hW0⟩ : ∃ W0, W0 = (w.alloc (.cells #[.int .i64 5, .int .i64 10, .int .i64 16] 227)).alloc (.cells #[.int .u64 (o : Int), .int .i64 X] 262) := ⟨_, rfl⟩
  rw [← hW0] at B0 A0 F0
  have d1 : decide (S < 0) = false := by simpa using hc
  have d2 : decide (11 < (len : Int)) = true := by simpa using hc2
  clear hE hS hlen h0 ho hX1 hX2
  go_enter Tryz.func199, Tryz.ntmps199
  go_wp2_with fail
  refine (HN.out _).mono ?_
  rintro e w1 ⟨rfl, rfl⟩
  go_wp2_with fail
  rw [← hW0]
  clear hW0
  have A0d := Lib.hid (show At W0.drew _ _ _ from A0.out)
  have F0d := Lib.hid (show At W0.drew _ _ _ from F0.out)
  have B0d := Lib.hid B0.out.drew
  clear A0 F0 B0
  go_region_held3 (fun w' => w'.cell? ⟨w.heap.size, 0, none⟩ = some (.int .i64 5) ∧ w'.cell? ⟨w.heap.size, 1, none⟩ = some (.int .i64 10) ∧ w'.cell? ⟨w.heap.size + 1, 1, none⟩ = some (.int .i64 X))
    (first
      | exact ⟨F0d.out.c 0 rfl, F0d.out.c 1 rfl, A0d.out.c 1 rfl⟩
      | exact ⟨F1.out.c 0 rfl, F1.out.c 1 rfl, A1.out.c 1 rfl⟩)
    ((go_at_call 222; refine (HL.out _).mono ?_; rintro o w1 ⟨rfl, hb1⟩; have A1 := Lib.hid (A0d.out.below hb1); have F1 := Lib.hid (F0d.out.below hb1); have B1 := Lib.hid (below_next B0d.out hb1); clear hb1))
  all_goals
    clear A0d F0d B0d
    have p0 := F1.out.c 0 rfl
    have p1 := F1.out.c 1 rfl
    have q0 := A1.out.c 0 rfl
    go_wp2
    go_ret3
    exact ⟨rfl, B1.out⟩

set_option maxRecDepth 100000 in
set_option maxHeartbeats 400000 in
theorem place_far_16 (o len : Nat) (X S E : Int)  (w : World) (h0 : o ≠ 0) (ho : o < 18446744073709551616) (hlen : o.log2 + 1 = len) (hX1 : -100000 ≤ X) (hX2 : X ≤ 100000) (hS : S = X - (-24)) (hE : E = S + (len : Int) - 10) (hl64 : len ≤ 64) (hc : 0 ≤ S) (hc2 : (len : Int) ≤ 11) (hc3 : 31 ≤ E) :
    Calls Tryz.prog 199 #[fmV 5 10 16, .agg #[.int .u64 (o : Int), .int .i64 X]] w fun o w' => o = .returned (.tuple #[.int .u64 0, .int .u64 0, .bool false]) ∧ Below w.heap.size w w' := by
  have hw1 : IntKind.i64.wrap (X - (-24)) = S := (IntWalk.i64_in _ (by omega)).trans hS.symm
  have hw2 : IntKind.i64.wrap (X + 24) = S := (IntWalk.i64_in _ (by omega)).trans (by omega)
  have hSb1 : -200000 ≤ S := by omega
  have hSb2 : S ≤ 200000 := by omega
  have hEe : S + (len : Int) - 10 = E := hE.symm
  have h0i : ((o : Int) == 0) = false := by simpa using h0
  have HN := Lib.hid (fun W => len_calls o W h0 ho)
  rw [hlen] at HN
  have HL := Lib.hid (fun W => least_calls 5 10 (-24) W (by omega))
  have HF := Lib.hid (fun W => full_calls 5 10 W (by omega))
  unfold fmV
  have B0 := Lib.hid (((Below.refl _ w).alloc (Nat.le_refl _) (.cells #[.int .i64 5, .int .i64 10, .int .i64 16] 227)).alloc (by simp) (.cells #[.int .u64 (o : Int), .int .i64 X] 262))
  have A0 := Lib.hid (At.new1 w (.cells #[.int .i64 5, .int .i64 10, .int .i64 16] 227) #[.int .u64 (o : Int), .int .i64 X] 262)
  have F0 := Lib.hid ((At.new w #[.int .i64 5, .int .i64 10, .int .i64 16] 227).alloc (.cells #[.int .u64 (o : Int), .int .i64 X] 262))
  obtain ⟨W0, hW0⟩ : ∃ W0, W0 = (w.alloc (.cells #[.int .i64 5, .int .i64 10, .int .i64 16] 227)).alloc (.cells #[.int .u64 (o : Int), .int .i64 X] 262) := ⟨_, rfl⟩
  rw [← hW0] at B0 A0 F0
  have d1 : decide (S < 0) = false := by simpa using hc
  have d2 : decide (11 < (len : Int)) = false := by simpa using hc2
  have d3 : decide (31 ≤ E) = true := by simpa using hc3
  clear hE hS hlen h0 ho hX1 hX2
  go_enter Tryz.func199, Tryz.ntmps199
  go_wp2_with fail
  refine (HN.out _).mono ?_
  rintro e w1 ⟨rfl, rfl⟩
  go_wp2_with fail
  rw [← hW0]
  clear hW0
  have A0d := Lib.hid (show At W0.drew _ _ _ from A0.out)
  have F0d := Lib.hid (show At W0.drew _ _ _ from F0.out)
  have B0d := Lib.hid B0.out.drew
  clear A0 F0 B0
  go_region_held3 (fun w' => w'.cell? ⟨w.heap.size, 0, none⟩ = some (.int .i64 5) ∧ w'.cell? ⟨w.heap.size, 1, none⟩ = some (.int .i64 10) ∧ w'.cell? ⟨w.heap.size + 1, 1, none⟩ = some (.int .i64 X))
    (first
      | exact ⟨F0d.out.c 0 rfl, F0d.out.c 1 rfl, A0d.out.c 1 rfl⟩
      | exact ⟨F1.out.c 0 rfl, F1.out.c 1 rfl, A1.out.c 1 rfl⟩)
    ((go_at_call 222; refine (HL.out _).mono ?_; rintro o w1 ⟨rfl, hb1⟩; have A1 := Lib.hid (A0d.out.below hb1); have F1 := Lib.hid (F0d.out.below hb1); have B1 := Lib.hid (below_next B0d.out hb1); clear hb1))
  all_goals
    clear A0d F0d B0d
    have p0 := F1.out.c 0 rfl
    have p1 := F1.out.c 1 rfl
    have q0 := A1.out.c 0 rfl
    go_wp2_with (go_at_call 197; refine (HF.out _).mono ?_; rintro o w2 ⟨rfl, hb2⟩; have A2 := Lib.hid (A1.out.below hb2); have F2 := Lib.hid (F1.out.below hb2); have B2 := Lib.hid (below_next B1.out hb2); clear hb2 p0 p1 q0; have p1 := F2.out.c 1 rfl; have q0 := A2.out.c 0 rfl)
    go_ret3
    exact ⟨rfl, B2.out⟩

set_option maxRecDepth 100000 in
set_option maxHeartbeats 400000 in
theorem place_low_16 (o len : Nat) (X S E : Int) (n r : Nat) (w : World) (h0 : o ≠ 0) (ho : o < 18446744073709551616) (hlen : o.log2 + 1 = len) (hX1 : -100000 ≤ X) (hX2 : X ≤ 100000) (hS : S = X - (-24)) (hE : E = S + (len : Int) - 10) (hl64 : len ≤ 64) (hc : S = (n : Int)) (hc2 : (len : Int) ≤ 11) (hc3 : E < 31) (hc4 : E ≤ 0) (hr : r = o * 2 ^ n) (hr2 : r < 1024) :
    Calls Tryz.prog 199 #[fmV 5 10 16, .agg #[.int .u64 (o : Int), .int .i64 X]] w fun o w' => o = .returned (.tuple #[.int .u64 0, .int .u64 (r : Int), .bool true]) ∧ Below w.heap.size w w' := by
  have hw1 : IntKind.i64.wrap (X - (-24)) = S := (IntWalk.i64_in _ (by omega)).trans hS.symm
  have hw2 : IntKind.i64.wrap (X + 24) = S := (IntWalk.i64_in _ (by omega)).trans (by omega)
  have hSb1 : -200000 ≤ S := by omega
  have hSb2 : S ≤ 200000 := by omega
  have hEe : S + (len : Int) - 10 = E := hE.symm
  have h0i : ((o : Int) == 0) = false := by simpa using h0
  have HN := Lib.hid (fun W => len_calls o W h0 ho)
  rw [hlen] at HN
  have HL := Lib.hid (fun W => least_calls 5 10 (-24) W (by omega))
  have HF := Lib.hid (fun W => full_calls 5 10 W (by omega))
  unfold fmV
  have B0 := Lib.hid (((Below.refl _ w).alloc (Nat.le_refl _) (.cells #[.int .i64 5, .int .i64 10, .int .i64 16] 227)).alloc (by simp) (.cells #[.int .u64 (o : Int), .int .i64 X] 262))
  have A0 := Lib.hid (At.new1 w (.cells #[.int .i64 5, .int .i64 10, .int .i64 16] 227) #[.int .u64 (o : Int), .int .i64 X] 262)
  have F0 := Lib.hid ((At.new w #[.int .i64 5, .int .i64 10, .int .i64 16] 227).alloc (.cells #[.int .u64 (o : Int), .int .i64 X] 262))
  obtain ⟨W0, hW0⟩ : ∃ W0, W0 = (w.alloc (.cells #[.int .i64 5, .int .i64 10, .int .i64 16] 227)).alloc (.cells #[.int .u64 (o : Int), .int .i64 X] 262) := ⟨_, rfl⟩
  rw [← hW0] at B0 A0 F0
  have hn : n ≤ 200000 := by omega
  have d1 : decide (S < 0) = false := by rw [hc]; simp
  have d2 : decide (11 < (len : Int)) = false := by simpa using hc2
  have d3 : decide (31 ≤ E) = false := by simpa using hc3
  have d4 : decide (E ≤ 0) = true := by simpa using hc4
  have hsh : IntKind.u64.wrap ((o : Int) * 2 ^ n) = (r : Int) := by
    have h1 : (o : Int) * 2 ^ n = (r : Int) := by rw [hr]; simp
    rw [h1, IntKind.wrap_u64]; omega
  clear hr
  subst hc
  clear hE hS hlen h0 ho hX1 hX2
  go_enter Tryz.func199, Tryz.ntmps199
  go_wp2_with fail
  refine (HN.out _).mono ?_
  rintro e w1 ⟨rfl, rfl⟩
  go_wp2_with fail
  rw [← hW0]
  clear hW0
  have A0d := Lib.hid (show At W0.drew _ _ _ from A0.out)
  have F0d := Lib.hid (show At W0.drew _ _ _ from F0.out)
  have B0d := Lib.hid B0.out.drew
  clear A0 F0 B0
  go_region_held3 (fun w' => w'.cell? ⟨w.heap.size, 0, none⟩ = some (.int .i64 5) ∧ w'.cell? ⟨w.heap.size, 1, none⟩ = some (.int .i64 10) ∧ w'.cell? ⟨w.heap.size + 1, 1, none⟩ = some (.int .i64 X))
    (first
      | exact ⟨F0d.out.c 0 rfl, F0d.out.c 1 rfl, A0d.out.c 1 rfl⟩
      | exact ⟨F1.out.c 0 rfl, F1.out.c 1 rfl, A1.out.c 1 rfl⟩)
    ((go_at_call 222; refine (HL.out _).mono ?_; rintro o w1 ⟨rfl, hb1⟩; have A1 := Lib.hid (A0d.out.below hb1); have F1 := Lib.hid (F0d.out.below hb1); have B1 := Lib.hid (below_next B0d.out hb1); clear hb1))
  all_goals
    clear A0d F0d B0d
    have p0 := F1.out.c 0 rfl
    have p1 := F1.out.c 1 rfl
    have q0 := A1.out.c 0 rfl
    go_wp2_with (go_at_call 197; refine (HF.out _).mono ?_; rintro o w2 ⟨rfl, hb2⟩; have A2 := Lib.hid (A1.out.below hb2); have F2 := Lib.hid (F1.out.below hb2); have B2 := Lib.hid (below_next B1.out hb2); clear hb2 p0 p1 q0; have p1 := F2.out.c 1 rfl; have q0 := A2.out.c 0 rfl)
    go_quiet (fail)
    go_wp2
    go_ret3
    exact ⟨rfl, below_drewN B2.out _⟩

set_option maxRecDepth 100000 in
set_option maxHeartbeats 400000 in
theorem place_high_16 (o len : Nat) (X S E : Int) (e m r f : Nat) (w : World) (h0 : o ≠ 0) (ho : o < 18446744073709551616) (hlen : o.log2 + 1 = len) (hX1 : -100000 ≤ X) (hX2 : X ≤ 100000) (hS : S = X - (-24)) (hE : E = S + (len : Int) - 10) (hl64 : len ≤ 64) (hc : 0 ≤ S) (hc2 : (len : Int) ≤ 11) (hc3 : E < 31) (hc4 : 0 < E) (he : E = (e : Int)) (hm : m = 11 - len) (hr : r = o * 2 ^ m) (hr2 : r < 2048) (hf : f = r % 1024) :
    Calls Tryz.prog 199 #[fmV 5 10 16, .agg #[.int .u64 (o : Int), .int .i64 X]] w fun o w' => o = .returned (.tuple #[.int .u64 (e : Int), .int .u64 (f : Int), .bool true]) ∧ Below w.heap.size w w' := by
  have hw1 : IntKind.i64.wrap (X - (-24)) = S := (IntWalk.i64_in _ (by omega)).trans hS.symm
  have hw2 : IntKind.i64.wrap (X + 24) = S := (IntWalk.i64_in _ (by omega)).trans (by omega)
  have hSb1 : -200000 ≤ S := by omega
  have hSb2 : S ≤ 200000 := by omega
  have hEe : S + (len : Int) - 10 = E := hE.symm
  have h0i : ((o : Int) == 0) = false := by simpa using h0
  have HN := Lib.hid (fun W => len_calls o W h0 ho)
  rw [hlen] at HN
  have HL := Lib.hid (fun W => least_calls 5 10 (-24) W (by omega))
  have HF := Lib.hid (fun W => full_calls 5 10 W (by omega))
  unfold fmV
  have B0 := Lib.hid (((Below.refl _ w).alloc (Nat.le_refl _) (.cells #[.int .i64 5, .int .i64 10, .int .i64 16] 227)).alloc (by simp) (.cells #[.int .u64 (o : Int), .int .i64 X] 262))
  have A0 := Lib.hid (At.new1 w (.cells #[.int .i64 5, .int .i64 10, .int .i64 16] 227) #[.int .u64 (o : Int), .int .i64 X] 262)
  have F0 := Lib.hid ((At.new w #[.int .i64 5, .int .i64 10, .int .i64 16] 227).alloc (.cells #[.int .u64 (o : Int), .int .i64 X] 262))
  obtain ⟨W0, hW0⟩ : ∃ W0, W0 = (w.alloc (.cells #[.int .i64 5, .int .i64 10, .int .i64 16] 227)).alloc (.cells #[.int .u64 (o : Int), .int .i64 X] 262) := ⟨_, rfl⟩
  rw [← hW0] at B0 A0 F0
  have d1 : decide (S < 0) = false := by simpa using hc
  have d2 : decide (11 < (len : Int)) = false := by simpa using hc2
  have d3 : decide (31 ≤ E) = false := by simpa using hc3
  have d4 : decide (E ≤ 0) = false := by simpa using hc4
  have hw3 : IntKind.i64.wrap (11 - (len : Int)) = (m : Int) := (IntWalk.i64_in _ (by omega)).trans (by omega)
  have hw4 : IntKind.i64.wrap (10 + 1) = 11 := by decide
  have hm63 : m < 64 := by omega
  have hsh : IntKind.u64.wrap ((o : Int) * 2 ^ m) = (r : Int) := by
    have h1 : (o : Int) * 2 ^ m = (r : Int) := by rw [hr]; simp
    rw [h1, IntKind.wrap_u64]; omega
  have hand : bits .and .u64 (r : Int) 1023 = (f : Int) := by rw [hf]; exact and_64 r 10 1023 (by decide) (by decide) (by omega) _ _ rfl rfl
  have hcv : IntKind.u64.wrap (e : Int) = (e : Int) := by rw [IntKind.wrap_u64]; omega
  clear hr hf hm
  subst he
  clear hE hS hlen h0 ho hX1 hX2
  go_enter Tryz.func199, Tryz.ntmps199
  go_wp2_with fail
  refine (HN.out _).mono ?_
  rintro e w1 ⟨rfl, rfl⟩
  go_wp2_with fail
  rw [← hW0]
  clear hW0
  have A0d := Lib.hid (show At W0.drew _ _ _ from A0.out)
  have F0d := Lib.hid (show At W0.drew _ _ _ from F0.out)
  have B0d := Lib.hid B0.out.drew
  clear A0 F0 B0
  go_region_held3 (fun w' => w'.cell? ⟨w.heap.size, 0, none⟩ = some (.int .i64 5) ∧ w'.cell? ⟨w.heap.size, 1, none⟩ = some (.int .i64 10) ∧ w'.cell? ⟨w.heap.size + 1, 1, none⟩ = some (.int .i64 X))
    (first
      | exact ⟨F0d.out.c 0 rfl, F0d.out.c 1 rfl, A0d.out.c 1 rfl⟩
      | exact ⟨F1.out.c 0 rfl, F1.out.c 1 rfl, A1.out.c 1 rfl⟩)
    ((go_at_call 222; refine (HL.out _).mono ?_; rintro o w1 ⟨rfl, hb1⟩; have A1 := Lib.hid (A0d.out.below hb1); have F1 := Lib.hid (F0d.out.below hb1); have B1 := Lib.hid (below_next B0d.out hb1); clear hb1))
  all_goals
    clear A0d F0d B0d
    have p0 := F1.out.c 0 rfl
    have p1 := F1.out.c 1 rfl
    have q0 := A1.out.c 0 rfl
    go_wp2_with (go_at_call 197; refine (HF.out _).mono ?_; rintro o w2 ⟨rfl, hb2⟩; have A2 := Lib.hid (A1.out.below hb2); have F2 := Lib.hid (F1.out.below hb2); have B2 := Lib.hid (below_next B1.out hb2); clear hb2 p0 p1 q0; have p1 := F2.out.c 1 rfl; have q0 := A2.out.c 0 rfl)
    go_quiet ((go_at_call 220; exact Calls.quiet_of_same (ones_same 10 _ (by omega))))
    go_wp2
    go_ret3
    exact ⟨rfl, below_drewN B2.out _⟩

set_option maxRecDepth 100000 in
set_option maxHeartbeats 400000 in
theorem place_zero_32 (X : Int) (w : World) :
    Calls Tryz.prog 199 #[fmV 8 23 32, .agg #[.int .u64 0, .int .i64 X]] w fun o w' => o = .returned (.tuple #[.int .u64 0, .int .u64 0, .bool true]) ∧ Below w.heap.size w w' := by
  unfold fmV
  go_enter Tryz.func199, Tryz.ntmps199
  go_wp2
  go_ret3
  exact ⟨rfl, ((Below.refl _ _).alloc (Nat.le_refl _) _).alloc (by simp) _⟩

set_option maxRecDepth 100000 in
set_option maxHeartbeats 400000 in
theorem place_neg_32 (o len : Nat) (X S E : Int)  (w : World) (h0 : o ≠ 0) (ho : o < 18446744073709551616) (hlen : o.log2 + 1 = len) (hX1 : -100000 ≤ X) (hX2 : X ≤ 100000) (hS : S = X - (-149)) (hE : E = S + (len : Int) - 23) (hl64 : len ≤ 64) (hc : S < 0) :
    Calls Tryz.prog 199 #[fmV 8 23 32, .agg #[.int .u64 (o : Int), .int .i64 X]] w fun o w' => o = .returned (.tuple #[.int .u64 0, .int .u64 0, .bool false]) ∧ Below w.heap.size w w' := by
  have hw1 : IntKind.i64.wrap (X - (-149)) = S := (IntWalk.i64_in _ (by omega)).trans hS.symm
  have hw2 : IntKind.i64.wrap (X + 149) = S := (IntWalk.i64_in _ (by omega)).trans (by omega)
  have hSb1 : -200000 ≤ S := by omega
  have hSb2 : S ≤ 200000 := by omega
  have hEe : S + (len : Int) - 23 = E := hE.symm
  have h0i : ((o : Int) == 0) = false := by simpa using h0
  have HN := Lib.hid (fun W => len_calls o W h0 ho)
  rw [hlen] at HN
  have HL := Lib.hid (fun W => least_calls 8 23 (-149) W (by omega))
  have HF := Lib.hid (fun W => full_calls 8 23 W (by omega))
  unfold fmV
  have B0 := Lib.hid (((Below.refl _ w).alloc (Nat.le_refl _) (.cells #[.int .i64 8, .int .i64 23, .int .i64 32] 227)).alloc (by simp) (.cells #[.int .u64 (o : Int), .int .i64 X] 262))
  have A0 := Lib.hid (At.new1 w (.cells #[.int .i64 8, .int .i64 23, .int .i64 32] 227) #[.int .u64 (o : Int), .int .i64 X] 262)
  have F0 := Lib.hid ((At.new w #[.int .i64 8, .int .i64 23, .int .i64 32] 227).alloc (.cells #[.int .u64 (o : Int), .int .i64 X] 262))
  obtain ⟨W0, hW0⟩ : ∃ W0, W0 = (w.alloc (.cells #[.int .i64 8, .int .i64 23, .int .i64 32] 227)).alloc (.cells #[.int .u64 (o : Int), .int .i64 X] 262) := ⟨_, rfl⟩
  rw [← hW0] at B0 A0 F0
  have d1 : decide (S < 0) = true := by simpa using hc
  clear hE hS hlen h0 ho hX1 hX2
  go_enter Tryz.func199, Tryz.ntmps199
  go_wp2_with fail
  refine (HN.out _).mono ?_
  rintro e w1 ⟨rfl, rfl⟩
  go_wp2_with fail
  rw [← hW0]
  clear hW0
  have A0d := Lib.hid (show At W0.drew _ _ _ from A0.out)
  have F0d := Lib.hid (show At W0.drew _ _ _ from F0.out)
  have B0d := Lib.hid B0.out.drew
  clear A0 F0 B0
  go_region_held3 (fun w' => w'.cell? ⟨w.heap.size, 0, none⟩ = some (.int .i64 8) ∧ w'.cell? ⟨w.heap.size, 1, none⟩ = some (.int .i64 23) ∧ w'.cell? ⟨w.heap.size + 1, 1, none⟩ = some (.int .i64 X))
    (first
      | exact ⟨F0d.out.c 0 rfl, F0d.out.c 1 rfl, A0d.out.c 1 rfl⟩
      | exact ⟨F1.out.c 0 rfl, F1.out.c 1 rfl, A1.out.c 1 rfl⟩)
    ((go_at_call 222; refine (HL.out _).mono ?_; rintro o w1 ⟨rfl, hb1⟩; have A1 := Lib.hid (A0d.out.below hb1); have F1 := Lib.hid (F0d.out.below hb1); have B1 := Lib.hid (below_next B0d.out hb1); clear hb1))
  all_goals
    clear A0d F0d B0d
    have p0 := F1.out.c 0 rfl
    have p1 := F1.out.c 1 rfl
    have q0 := A1.out.c 0 rfl
    go_wp2
    go_ret3
    exact ⟨rfl, B1.out⟩

set_option maxRecDepth 100000 in
set_option maxHeartbeats 400000 in
theorem place_long_32 (o len : Nat) (X S E : Int)  (w : World) (h0 : o ≠ 0) (ho : o < 18446744073709551616) (hlen : o.log2 + 1 = len) (hX1 : -100000 ≤ X) (hX2 : X ≤ 100000) (hS : S = X - (-149)) (hE : E = S + (len : Int) - 23) (hl64 : len ≤ 64) (hc : 0 ≤ S) (hc2 : 24 < (len : Int)) :
    Calls Tryz.prog 199 #[fmV 8 23 32, .agg #[.int .u64 (o : Int), .int .i64 X]] w fun o w' => o = .returned (.tuple #[.int .u64 0, .int .u64 0, .bool false]) ∧ Below w.heap.size w w' := by
  have hw1 : IntKind.i64.wrap (X - (-149)) = S := (IntWalk.i64_in _ (by omega)).trans hS.symm
  have hw2 : IntKind.i64.wrap (X + 149) = S := (IntWalk.i64_in _ (by omega)).trans (by omega)
  have hSb1 : -200000 ≤ S := by omega
  have hSb2 : S ≤ 200000 := by omega
  have hEe : S + (len : Int) - 23 = E := hE.symm
  have h0i : ((o : Int) == 0) = false := by simpa using h0
  have HN := Lib.hid (fun W => len_calls o W h0 ho)
  rw [hlen] at HN
  have HL := Lib.hid (fun W => least_calls 8 23 (-149) W (by omega))
  have HF := Lib.hid (fun W => full_calls 8 23 W (by omega))
  unfold fmV
  have B0 := Lib.hid (((Below.refl _ w).alloc (Nat.le_refl _) (.cells #[.int .i64 8, .int .i64 23, .int .i64 32] 227)).alloc (by simp) (.cells #[.int .u64 (o : Int), .int .i64 X] 262))
  have A0 := Lib.hid (At.new1 w (.cells #[.int .i64 8, .int .i64 23, .int .i64 32] 227) #[.int .u64 (o : Int), .int .i64 X] 262)
  have F0 := Lib.hid ((At.new w #[.int .i64 8, .int .i64 23, .int .i64 32] 227).alloc (.cells #[.int .u64 (o : Int), .int .i64 X] 262))
  obtain ⟨W0, hW0⟩ : ∃ W0, W0 = (w.alloc (.cells #[.int .i64 8, .int .i64 23, .int .i64 32] 227)).alloc (.cells #[.int .u64 (o : Int), .int .i64 X] 262) := ⟨_, rfl⟩
  rw [← hW0] at B0 A0 F0
  have d1 : decide (S < 0) = false := by simpa using hc
  have d2 : decide (24 < (len : Int)) = true := by simpa using hc2
  clear hE hS hlen h0 ho hX1 hX2
  go_enter Tryz.func199, Tryz.ntmps199
  go_wp2_with fail
  refine (HN.out _).mono ?_
  rintro e w1 ⟨rfl, rfl⟩
  go_wp2_with fail
  rw [← hW0]
  clear hW0
  have A0d := Lib.hid (show At W0.drew _ _ _ from A0.out)
  have F0d := Lib.hid (show At W0.drew _ _ _ from F0.out)
  have B0d := Lib.hid B0.out.drew
  clear A0 F0 B0
  go_region_held3 (fun w' => w'.cell? ⟨w.heap.size, 0, none⟩ = some (.int .i64 8) ∧ w'.cell? ⟨w.heap.size, 1, none⟩ = some (.int .i64 23) ∧ w'.cell? ⟨w.heap.size + 1, 1, none⟩ = some (.int .i64 X))
    (first
      | exact ⟨F0d.out.c 0 rfl, F0d.out.c 1 rfl, A0d.out.c 1 rfl⟩
      | exact ⟨F1.out.c 0 rfl, F1.out.c 1 rfl, A1.out.c 1 rfl⟩)
    ((go_at_call 222; refine (HL.out _).mono ?_; rintro o w1 ⟨rfl, hb1⟩; have A1 := Lib.hid (A0d.out.below hb1); have F1 := Lib.hid (F0d.out.below hb1); have B1 := Lib.hid (below_next B0d.out hb1); clear hb1))
  all_goals
    clear A0d F0d B0d
    have p0 := F1.out.c 0 rfl
    have p1 := F1.out.c 1 rfl
    have q0 := A1.out.c 0 rfl
    go_wp2
    go_ret3
    exact ⟨rfl, B1.out⟩

set_option maxRecDepth 100000 in
set_option maxHeartbeats 400000 in
theorem place_far_32 (o len : Nat) (X S E : Int)  (w : World) (h0 : o ≠ 0) (ho : o < 18446744073709551616) (hlen : o.log2 + 1 = len) (hX1 : -100000 ≤ X) (hX2 : X ≤ 100000) (hS : S = X - (-149)) (hE : E = S + (len : Int) - 23) (hl64 : len ≤ 64) (hc : 0 ≤ S) (hc2 : (len : Int) ≤ 24) (hc3 : 255 ≤ E) :
    Calls Tryz.prog 199 #[fmV 8 23 32, .agg #[.int .u64 (o : Int), .int .i64 X]] w fun o w' => o = .returned (.tuple #[.int .u64 0, .int .u64 0, .bool false]) ∧ Below w.heap.size w w' := by
  have hw1 : IntKind.i64.wrap (X - (-149)) = S := (IntWalk.i64_in _ (by omega)).trans hS.symm
  have hw2 : IntKind.i64.wrap (X + 149) = S := (IntWalk.i64_in _ (by omega)).trans (by omega)
  have hSb1 : -200000 ≤ S := by omega
  have hSb2 : S ≤ 200000 := by omega
  have hEe : S + (len : Int) - 23 = E := hE.symm
  have h0i : ((o : Int) == 0) = false := by simpa using h0
  have HN := Lib.hid (fun W => len_calls o W h0 ho)
  rw [hlen] at HN
  have HL := Lib.hid (fun W => least_calls 8 23 (-149) W (by omega))
  have HF := Lib.hid (fun W => full_calls 8 23 W (by omega))
  unfold fmV
  have B0 := Lib.hid (((Below.refl _ w).alloc (Nat.le_refl _) (.cells #[.int .i64 8, .int .i64 23, .int .i64 32] 227)).alloc (by simp) (.cells #[.int .u64 (o : Int), .int .i64 X] 262))
  have A0 := Lib.hid (At.new1 w (.cells #[.int .i64 8, .int .i64 23, .int .i64 32] 227) #[.int .u64 (o : Int), .int .i64 X] 262)
  have F0 := Lib.hid ((At.new w #[.int .i64 8, .int .i64 23, .int .i64 32] 227).alloc (.cells #[.int .u64 (o : Int), .int .i64 X] 262))
  obtain ⟨W0, hW0⟩ : ∃ W0, W0 = (w.alloc (.cells #[.int .i64 8, .int .i64 23, .int .i64 32] 227)).alloc (.cells #[.int .u64 (o : Int), .int .i64 X] 262) := ⟨_, rfl⟩
  rw [← hW0] at B0 A0 F0
  have d1 : decide (S < 0) = false := by simpa using hc
  have d2 : decide (24 < (len : Int)) = false := by simpa using hc2
  have d3 : decide (255 ≤ E) = true := by simpa using hc3
  clear hE hS hlen h0 ho hX1 hX2
  go_enter Tryz.func199, Tryz.ntmps199
  go_wp2_with fail
  refine (HN.out _).mono ?_
  rintro e w1 ⟨rfl, rfl⟩
  go_wp2_with fail
  rw [← hW0]
  clear hW0
  have A0d := Lib.hid (show At W0.drew _ _ _ from A0.out)
  have F0d := Lib.hid (show At W0.drew _ _ _ from F0.out)
  have B0d := Lib.hid B0.out.drew
  clear A0 F0 B0
  go_region_held3 (fun w' => w'.cell? ⟨w.heap.size, 0, none⟩ = some (.int .i64 8) ∧ w'.cell? ⟨w.heap.size, 1, none⟩ = some (.int .i64 23) ∧ w'.cell? ⟨w.heap.size + 1, 1, none⟩ = some (.int .i64 X))
    (first
      | exact ⟨F0d.out.c 0 rfl, F0d.out.c 1 rfl, A0d.out.c 1 rfl⟩
      | exact ⟨F1.out.c 0 rfl, F1.out.c 1 rfl, A1.out.c 1 rfl⟩)
    ((go_at_call 222; refine (HL.out _).mono ?_; rintro o w1 ⟨rfl, hb1⟩; have A1 := Lib.hid (A0d.out.below hb1); have F1 := Lib.hid (F0d.out.below hb1); have B1 := Lib.hid (below_next B0d.out hb1); clear hb1))
  all_goals
    clear A0d F0d B0d
    have p0 := F1.out.c 0 rfl
    have p1 := F1.out.c 1 rfl
    have q0 := A1.out.c 0 rfl
    go_wp2_with (go_at_call 197; refine (HF.out _).mono ?_; rintro o w2 ⟨rfl, hb2⟩; have A2 := Lib.hid (A1.out.below hb2); have F2 := Lib.hid (F1.out.below hb2); have B2 := Lib.hid (below_next B1.out hb2); clear hb2 p0 p1 q0; have p1 := F2.out.c 1 rfl; have q0 := A2.out.c 0 rfl)
    go_ret3
    exact ⟨rfl, B2.out⟩

set_option maxRecDepth 100000 in
set_option maxHeartbeats 400000 in
theorem place_low_32 (o len : Nat) (X S E : Int) (n r : Nat) (w : World) (h0 : o ≠ 0) (ho : o < 18446744073709551616) (hlen : o.log2 + 1 = len) (hX1 : -100000 ≤ X) (hX2 : X ≤ 100000) (hS : S = X - (-149)) (hE : E = S + (len : Int) - 23) (hl64 : len ≤ 64) (hc : S = (n : Int)) (hc2 : (len : Int) ≤ 24) (hc3 : E < 255) (hc4 : E ≤ 0) (hr : r = o * 2 ^ n) (hr2 : r < 8388608) :
    Calls Tryz.prog 199 #[fmV 8 23 32, .agg #[.int .u64 (o : Int), .int .i64 X]] w fun o w' => o = .returned (.tuple #[.int .u64 0, .int .u64 (r : Int), .bool true]) ∧ Below w.heap.size w w' := by
  have hw1 : IntKind.i64.wrap (X - (-149)) = S := (IntWalk.i64_in _ (by omega)).trans hS.symm
  have hw2 : IntKind.i64.wrap (X + 149) = S := (IntWalk.i64_in _ (by omega)).trans (by omega)
  have hSb1 : -200000 ≤ S := by omega
  have hSb2 : S ≤ 200000 := by omega
  have hEe : S + (len : Int) - 23 = E := hE.symm
  have h0i : ((o : Int) == 0) = false := by simpa using h0
  have HN := Lib.hid (fun W => len_calls o W h0 ho)
  rw [hlen] at HN
  have HL := Lib.hid (fun W => least_calls 8 23 (-149) W (by omega))
  have HF := Lib.hid (fun W => full_calls 8 23 W (by omega))
  unfold fmV
  have B0 := Lib.hid (((Below.refl _ w).alloc (Nat.le_refl _) (.cells #[.int .i64 8, .int .i64 23, .int .i64 32] 227)).alloc (by simp) (.cells #[.int .u64 (o : Int), .int .i64 X] 262))
  have A0 := Lib.hid (At.new1 w (.cells #[.int .i64 8, .int .i64 23, .int .i64 32] 227) #[.int .u64 (o : Int), .int .i64 X] 262)
  have F0 := Lib.hid ((At.new w #[.int .i64 8, .int .i64 23, .int .i64 32] 227).alloc (.cells #[.int .u64 (o : Int), .int .i64 X] 262))
  obtain ⟨W0, hW0⟩ : ∃ W0, W0 = (w.alloc (.cells #[.int .i64 8, .int .i64 23, .int .i64 32] 227)).alloc (.cells #[.int .u64 (o : Int), .int .i64 X] 262) := ⟨_, rfl⟩
  rw [← hW0] at B0 A0 F0
  have hn : n ≤ 200000 := by omega
  have d1 : decide (S < 0) = false := by rw [hc]; simp
  have d2 : decide (24 < (len : Int)) = false := by simpa using hc2
  have d3 : decide (255 ≤ E) = false := by simpa using hc3
  have d4 : decide (E ≤ 0) = true := by simpa using hc4
  have hsh : IntKind.u64.wrap ((o : Int) * 2 ^ n) = (r : Int) := by
    have h1 : (o : Int) * 2 ^ n = (r : Int) := by rw [hr]; simp
    rw [h1, IntKind.wrap_u64]; omega
  clear hr
  subst hc
  clear hE hS hlen h0 ho hX1 hX2
  go_enter Tryz.func199, Tryz.ntmps199
  go_wp2_with fail
  refine (HN.out _).mono ?_
  rintro e w1 ⟨rfl, rfl⟩
  go_wp2_with fail
  rw [← hW0]
  clear hW0
  have A0d := Lib.hid (show At W0.drew _ _ _ from A0.out)
  have F0d := Lib.hid (show At W0.drew _ _ _ from F0.out)
  have B0d := Lib.hid B0.out.drew
  clear A0 F0 B0
  go_region_held3 (fun w' => w'.cell? ⟨w.heap.size, 0, none⟩ = some (.int .i64 8) ∧ w'.cell? ⟨w.heap.size, 1, none⟩ = some (.int .i64 23) ∧ w'.cell? ⟨w.heap.size + 1, 1, none⟩ = some (.int .i64 X))
    (first
      | exact ⟨F0d.out.c 0 rfl, F0d.out.c 1 rfl, A0d.out.c 1 rfl⟩
      | exact ⟨F1.out.c 0 rfl, F1.out.c 1 rfl, A1.out.c 1 rfl⟩)
    ((go_at_call 222; refine (HL.out _).mono ?_; rintro o w1 ⟨rfl, hb1⟩; have A1 := Lib.hid (A0d.out.below hb1); have F1 := Lib.hid (F0d.out.below hb1); have B1 := Lib.hid (below_next B0d.out hb1); clear hb1))
  all_goals
    clear A0d F0d B0d
    have p0 := F1.out.c 0 rfl
    have p1 := F1.out.c 1 rfl
    have q0 := A1.out.c 0 rfl
    go_wp2_with (go_at_call 197; refine (HF.out _).mono ?_; rintro o w2 ⟨rfl, hb2⟩; have A2 := Lib.hid (A1.out.below hb2); have F2 := Lib.hid (F1.out.below hb2); have B2 := Lib.hid (below_next B1.out hb2); clear hb2 p0 p1 q0; have p1 := F2.out.c 1 rfl; have q0 := A2.out.c 0 rfl)
    go_quiet (fail)
    go_wp2
    go_ret3
    exact ⟨rfl, below_drewN B2.out _⟩

set_option maxRecDepth 100000 in
set_option maxHeartbeats 400000 in
theorem place_high_32 (o len : Nat) (X S E : Int) (e m r f : Nat) (w : World) (h0 : o ≠ 0) (ho : o < 18446744073709551616) (hlen : o.log2 + 1 = len) (hX1 : -100000 ≤ X) (hX2 : X ≤ 100000) (hS : S = X - (-149)) (hE : E = S + (len : Int) - 23) (hl64 : len ≤ 64) (hc : 0 ≤ S) (hc2 : (len : Int) ≤ 24) (hc3 : E < 255) (hc4 : 0 < E) (he : E = (e : Int)) (hm : m = 24 - len) (hr : r = o * 2 ^ m) (hr2 : r < 16777216) (hf : f = r % 8388608) :
    Calls Tryz.prog 199 #[fmV 8 23 32, .agg #[.int .u64 (o : Int), .int .i64 X]] w fun o w' => o = .returned (.tuple #[.int .u64 (e : Int), .int .u64 (f : Int), .bool true]) ∧ Below w.heap.size w w' := by
  have hw1 : IntKind.i64.wrap (X - (-149)) = S := (IntWalk.i64_in _ (by omega)).trans hS.symm
  have hw2 : IntKind.i64.wrap (X + 149) = S := (IntWalk.i64_in _ (by omega)).trans (by omega)
  have hSb1 : -200000 ≤ S := by omega
  have hSb2 : S ≤ 200000 := by omega
  have hEe : S + (len : Int) - 23 = E := hE.symm
  have h0i : ((o : Int) == 0) = false := by simpa using h0
  have HN := Lib.hid (fun W => len_calls o W h0 ho)
  rw [hlen] at HN
  have HL := Lib.hid (fun W => least_calls 8 23 (-149) W (by omega))
  have HF := Lib.hid (fun W => full_calls 8 23 W (by omega))
  unfold fmV
  have B0 := Lib.hid (((Below.refl _ w).alloc (Nat.le_refl _) (.cells #[.int .i64 8, .int .i64 23, .int .i64 32] 227)).alloc (by simp) (.cells #[.int .u64 (o : Int), .int .i64 X] 262))
  have A0 := Lib.hid (At.new1 w (.cells #[.int .i64 8, .int .i64 23, .int .i64 32] 227) #[.int .u64 (o : Int), .int .i64 X] 262)
  have F0 := Lib.hid ((At.new w #[.int .i64 8, .int .i64 23, .int .i64 32] 227).alloc (.cells #[.int .u64 (o : Int), .int .i64 X] 262))
  obtain ⟨W0, hW0⟩ : ∃ W0, W0 = (w.alloc (.cells #[.int .i64 8, .int .i64 23, .int .i64 32] 227)).alloc (.cells #[.int .u64 (o : Int), .int .i64 X] 262) := ⟨_, rfl⟩
  rw [← hW0] at B0 A0 F0
  have d1 : decide (S < 0) = false := by simpa using hc
  have d2 : decide (24 < (len : Int)) = false := by simpa using hc2
  have d3 : decide (255 ≤ E) = false := by simpa using hc3
  have d4 : decide (E ≤ 0) = false := by simpa using hc4
  have hw3 : IntKind.i64.wrap (24 - (len : Int)) = (m : Int) := (IntWalk.i64_in _ (by omega)).trans (by omega)
  have hw4 : IntKind.i64.wrap (23 + 1) = 24 := by decide
  have hm63 : m < 64 := by omega
  have hsh : IntKind.u64.wrap ((o : Int) * 2 ^ m) = (r : Int) := by
    have h1 : (o : Int) * 2 ^ m = (r : Int) := by rw [hr]; simp
    rw [h1, IntKind.wrap_u64]; omega
  have hand : bits .and .u64 (r : Int) 8388607 = (f : Int) := by rw [hf]; exact and_64 r 23 8388607 (by decide) (by decide) (by omega) _ _ rfl rfl
  have hcv : IntKind.u64.wrap (e : Int) = (e : Int) := by rw [IntKind.wrap_u64]; omega
  clear hr hf hm
  subst he
  clear hE hS hlen h0 ho hX1 hX2
  go_enter Tryz.func199, Tryz.ntmps199
  go_wp2_with fail
  refine (HN.out _).mono ?_
  rintro e w1 ⟨rfl, rfl⟩
  go_wp2_with fail
  rw [← hW0]
  clear hW0
  have A0d := Lib.hid (show At W0.drew _ _ _ from A0.out)
  have F0d := Lib.hid (show At W0.drew _ _ _ from F0.out)
  have B0d := Lib.hid B0.out.drew
  clear A0 F0 B0
  go_region_held3 (fun w' => w'.cell? ⟨w.heap.size, 0, none⟩ = some (.int .i64 8) ∧ w'.cell? ⟨w.heap.size, 1, none⟩ = some (.int .i64 23) ∧ w'.cell? ⟨w.heap.size + 1, 1, none⟩ = some (.int .i64 X))
    (first
      | exact ⟨F0d.out.c 0 rfl, F0d.out.c 1 rfl, A0d.out.c 1 rfl⟩
      | exact ⟨F1.out.c 0 rfl, F1.out.c 1 rfl, A1.out.c 1 rfl⟩)
    ((go_at_call 222; refine (HL.out _).mono ?_; rintro o w1 ⟨rfl, hb1⟩; have A1 := Lib.hid (A0d.out.below hb1); have F1 := Lib.hid (F0d.out.below hb1); have B1 := Lib.hid (below_next B0d.out hb1); clear hb1))
  all_goals
    clear A0d F0d B0d
    have p0 := F1.out.c 0 rfl
    have p1 := F1.out.c 1 rfl
    have q0 := A1.out.c 0 rfl
    go_wp2_with (go_at_call 197; refine (HF.out _).mono ?_; rintro o w2 ⟨rfl, hb2⟩; have A2 := Lib.hid (A1.out.below hb2); have F2 := Lib.hid (F1.out.below hb2); have B2 := Lib.hid (below_next B1.out hb2); clear hb2 p0 p1 q0; have p1 := F2.out.c 1 rfl; have q0 := A2.out.c 0 rfl)
    go_quiet ((go_at_call 220; exact Calls.quiet_of_same (ones_same 23 _ (by omega))))
    go_wp2
    go_ret3
    exact ⟨rfl, below_drewN B2.out _⟩

set_option maxRecDepth 100000 in
set_option maxHeartbeats 400000 in
theorem place_zero_64 (X : Int) (w : World) :
    Calls Tryz.prog 199 #[fmV 11 52 64, .agg #[.int .u64 0, .int .i64 X]] w fun o w' => o = .returned (.tuple #[.int .u64 0, .int .u64 0, .bool true]) ∧ Below w.heap.size w w' := by
  unfold fmV
  go_enter Tryz.func199, Tryz.ntmps199
  go_wp2
  go_ret3
  exact ⟨rfl, ((Below.refl _ _).alloc (Nat.le_refl _) _).alloc (by simp) _⟩

set_option maxRecDepth 100000 in
set_option maxHeartbeats 400000 in
theorem place_neg_64 (o len : Nat) (X S E : Int)  (w : World) (h0 : o ≠ 0) (ho : o < 18446744073709551616) (hlen : o.log2 + 1 = len) (hX1 : -100000 ≤ X) (hX2 : X ≤ 100000) (hS : S = X - (-1074)) (hE : E = S + (len : Int) - 52) (hl64 : len ≤ 64) (hc : S < 0) :
    Calls Tryz.prog 199 #[fmV 11 52 64, .agg #[.int .u64 (o : Int), .int .i64 X]] w fun o w' => o = .returned (.tuple #[.int .u64 0, .int .u64 0, .bool false]) ∧ Below w.heap.size w w' := by
  have hw1 : IntKind.i64.wrap (X - (-1074)) = S := (IntWalk.i64_in _ (by omega)).trans hS.symm
  have hw2 : IntKind.i64.wrap (X + 1074) = S := (IntWalk.i64_in _ (by omega)).trans (by omega)
  have hSb1 : -200000 ≤ S := by omega
  have hSb2 : S ≤ 200000 := by omega
  have hEe : S + (len : Int) - 52 = E := hE.symm
  have h0i : ((o : Int) == 0) = false := by simpa using h0
  have HN := Lib.hid (fun W => len_calls o W h0 ho)
  rw [hlen] at HN
  have HL := Lib.hid (fun W => least_calls 11 52 (-1074) W (by omega))
  have HF := Lib.hid (fun W => full_calls 11 52 W (by omega))
  unfold fmV
  have B0 := Lib.hid (((Below.refl _ w).alloc (Nat.le_refl _) (.cells #[.int .i64 11, .int .i64 52, .int .i64 64] 227)).alloc (by simp) (.cells #[.int .u64 (o : Int), .int .i64 X] 262))
  have A0 := Lib.hid (At.new1 w (.cells #[.int .i64 11, .int .i64 52, .int .i64 64] 227) #[.int .u64 (o : Int), .int .i64 X] 262)
  have F0 := Lib.hid ((At.new w #[.int .i64 11, .int .i64 52, .int .i64 64] 227).alloc (.cells #[.int .u64 (o : Int), .int .i64 X] 262))
  obtain ⟨W0, hW0⟩ : ∃ W0, W0 = (w.alloc (.cells #[.int .i64 11, .int .i64 52, .int .i64 64] 227)).alloc (.cells #[.int .u64 (o : Int), .int .i64 X] 262) := ⟨_, rfl⟩
  rw [← hW0] at B0 A0 F0
  have d1 : decide (S < 0) = true := by simpa using hc
  clear hE hS hlen h0 ho hX1 hX2
  go_enter Tryz.func199, Tryz.ntmps199
  go_wp2_with fail
  refine (HN.out _).mono ?_
  rintro e w1 ⟨rfl, rfl⟩
  go_wp2_with fail
  rw [← hW0]
  clear hW0
  have A0d := Lib.hid (show At W0.drew _ _ _ from A0.out)
  have F0d := Lib.hid (show At W0.drew _ _ _ from F0.out)
  have B0d := Lib.hid B0.out.drew
  clear A0 F0 B0
  go_region_held3 (fun w' => w'.cell? ⟨w.heap.size, 0, none⟩ = some (.int .i64 11) ∧ w'.cell? ⟨w.heap.size, 1, none⟩ = some (.int .i64 52) ∧ w'.cell? ⟨w.heap.size + 1, 1, none⟩ = some (.int .i64 X))
    (first
      | exact ⟨F0d.out.c 0 rfl, F0d.out.c 1 rfl, A0d.out.c 1 rfl⟩
      | exact ⟨F1.out.c 0 rfl, F1.out.c 1 rfl, A1.out.c 1 rfl⟩)
    ((go_at_call 222; refine (HL.out _).mono ?_; rintro o w1 ⟨rfl, hb1⟩; have A1 := Lib.hid (A0d.out.below hb1); have F1 := Lib.hid (F0d.out.below hb1); have B1 := Lib.hid (below_next B0d.out hb1); clear hb1))
  all_goals
    clear A0d F0d B0d
    have p0 := F1.out.c 0 rfl
    have p1 := F1.out.c 1 rfl
    have q0 := A1.out.c 0 rfl
    go_wp2
    go_ret3
    exact ⟨rfl, B1.out⟩

set_option maxRecDepth 100000 in
set_option maxHeartbeats 400000 in
theorem place_long_64 (o len : Nat) (X S E : Int)  (w : World) (h0 : o ≠ 0) (ho : o < 18446744073709551616) (hlen : o.log2 + 1 = len) (hX1 : -100000 ≤ X) (hX2 : X ≤ 100000) (hS : S = X - (-1074)) (hE : E = S + (len : Int) - 52) (hl64 : len ≤ 64) (hc : 0 ≤ S) (hc2 : 53 < (len : Int)) :
    Calls Tryz.prog 199 #[fmV 11 52 64, .agg #[.int .u64 (o : Int), .int .i64 X]] w fun o w' => o = .returned (.tuple #[.int .u64 0, .int .u64 0, .bool false]) ∧ Below w.heap.size w w' := by
  have hw1 : IntKind.i64.wrap (X - (-1074)) = S := (IntWalk.i64_in _ (by omega)).trans hS.symm
  have hw2 : IntKind.i64.wrap (X + 1074) = S := (IntWalk.i64_in _ (by omega)).trans (by omega)
  have hSb1 : -200000 ≤ S := by omega
  have hSb2 : S ≤ 200000 := by omega
  have hEe : S + (len : Int) - 52 = E := hE.symm
  have h0i : ((o : Int) == 0) = false := by simpa using h0
  have HN := Lib.hid (fun W => len_calls o W h0 ho)
  rw [hlen] at HN
  have HL := Lib.hid (fun W => least_calls 11 52 (-1074) W (by omega))
  have HF := Lib.hid (fun W => full_calls 11 52 W (by omega))
  unfold fmV
  have B0 := Lib.hid (((Below.refl _ w).alloc (Nat.le_refl _) (.cells #[.int .i64 11, .int .i64 52, .int .i64 64] 227)).alloc (by simp) (.cells #[.int .u64 (o : Int), .int .i64 X] 262))
  have A0 := Lib.hid (At.new1 w (.cells #[.int .i64 11, .int .i64 52, .int .i64 64] 227) #[.int .u64 (o : Int), .int .i64 X] 262)
  have F0 := Lib.hid ((At.new w #[.int .i64 11, .int .i64 52, .int .i64 64] 227).alloc (.cells #[.int .u64 (o : Int), .int .i64 X] 262))
  obtain ⟨W0, hW0⟩ : ∃ W0, W0 = (w.alloc (.cells #[.int .i64 11, .int .i64 52, .int .i64 64] 227)).alloc (.cells #[.int .u64 (o : Int), .int .i64 X] 262) := ⟨_, rfl⟩
  rw [← hW0] at B0 A0 F0
  have d1 : decide (S < 0) = false := by simpa using hc
  have d2 : decide (53 < (len : Int)) = true := by simpa using hc2
  clear hE hS hlen h0 ho hX1 hX2
  go_enter Tryz.func199, Tryz.ntmps199
  go_wp2_with fail
  refine (HN.out _).mono ?_
  rintro e w1 ⟨rfl, rfl⟩
  go_wp2_with fail
  rw [← hW0]
  clear hW0
  have A0d := Lib.hid (show At W0.drew _ _ _ from A0.out)
  have F0d := Lib.hid (show At W0.drew _ _ _ from F0.out)
  have B0d := Lib.hid B0.out.drew
  clear A0 F0 B0
  go_region_held3 (fun w' => w'.cell? ⟨w.heap.size, 0, none⟩ = some (.int .i64 11) ∧ w'.cell? ⟨w.heap.size, 1, none⟩ = some (.int .i64 52) ∧ w'.cell? ⟨w.heap.size + 1, 1, none⟩ = some (.int .i64 X))
    (first
      | exact ⟨F0d.out.c 0 rfl, F0d.out.c 1 rfl, A0d.out.c 1 rfl⟩
      | exact ⟨F1.out.c 0 rfl, F1.out.c 1 rfl, A1.out.c 1 rfl⟩)
    ((go_at_call 222; refine (HL.out _).mono ?_; rintro o w1 ⟨rfl, hb1⟩; have A1 := Lib.hid (A0d.out.below hb1); have F1 := Lib.hid (F0d.out.below hb1); have B1 := Lib.hid (below_next B0d.out hb1); clear hb1))
  all_goals
    clear A0d F0d B0d
    have p0 := F1.out.c 0 rfl
    have p1 := F1.out.c 1 rfl
    have q0 := A1.out.c 0 rfl
    go_wp2
    go_ret3
    exact ⟨rfl, B1.out⟩

set_option maxRecDepth 100000 in
set_option maxHeartbeats 400000 in
theorem place_far_64 (o len : Nat) (X S E : Int)  (w : World) (h0 : o ≠ 0) (ho : o < 18446744073709551616) (hlen : o.log2 + 1 = len) (hX1 : -100000 ≤ X) (hX2 : X ≤ 100000) (hS : S = X - (-1074)) (hE : E = S + (len : Int) - 52) (hl64 : len ≤ 64) (hc : 0 ≤ S) (hc2 : (len : Int) ≤ 53) (hc3 : 2047 ≤ E) :
    Calls Tryz.prog 199 #[fmV 11 52 64, .agg #[.int .u64 (o : Int), .int .i64 X]] w fun o w' => o = .returned (.tuple #[.int .u64 0, .int .u64 0, .bool false]) ∧ Below w.heap.size w w' := by
  have hw1 : IntKind.i64.wrap (X - (-1074)) = S := (IntWalk.i64_in _ (by omega)).trans hS.symm
  have hw2 : IntKind.i64.wrap (X + 1074) = S := (IntWalk.i64_in _ (by omega)).trans (by omega)
  have hSb1 : -200000 ≤ S := by omega
  have hSb2 : S ≤ 200000 := by omega
  have hEe : S + (len : Int) - 52 = E := hE.symm
  have h0i : ((o : Int) == 0) = false := by simpa using h0
  have HN := Lib.hid (fun W => len_calls o W h0 ho)
  rw [hlen] at HN
  have HL := Lib.hid (fun W => least_calls 11 52 (-1074) W (by omega))
  have HF := Lib.hid (fun W => full_calls 11 52 W (by omega))
  unfold fmV
  have B0 := Lib.hid (((Below.refl _ w).alloc (Nat.le_refl _) (.cells #[.int .i64 11, .int .i64 52, .int .i64 64] 227)).alloc (by simp) (.cells #[.int .u64 (o : Int), .int .i64 X] 262))
  have A0 := Lib.hid (At.new1 w (.cells #[.int .i64 11, .int .i64 52, .int .i64 64] 227) #[.int .u64 (o : Int), .int .i64 X] 262)
  have F0 := Lib.hid ((At.new w #[.int .i64 11, .int .i64 52, .int .i64 64] 227).alloc (.cells #[.int .u64 (o : Int), .int .i64 X] 262))
  obtain ⟨W0, hW0⟩ : ∃ W0, W0 = (w.alloc (.cells #[.int .i64 11, .int .i64 52, .int .i64 64] 227)).alloc (.cells #[.int .u64 (o : Int), .int .i64 X] 262) := ⟨_, rfl⟩
  rw [← hW0] at B0 A0 F0
  have d1 : decide (S < 0) = false := by simpa using hc
  have d2 : decide (53 < (len : Int)) = false := by simpa using hc2
  have d3 : decide (2047 ≤ E) = true := by simpa using hc3
  clear hE hS hlen h0 ho hX1 hX2
  go_enter Tryz.func199, Tryz.ntmps199
  go_wp2_with fail
  refine (HN.out _).mono ?_
  rintro e w1 ⟨rfl, rfl⟩
  go_wp2_with fail
  rw [← hW0]
  clear hW0
  have A0d := Lib.hid (show At W0.drew _ _ _ from A0.out)
  have F0d := Lib.hid (show At W0.drew _ _ _ from F0.out)
  have B0d := Lib.hid B0.out.drew
  clear A0 F0 B0
  go_region_held3 (fun w' => w'.cell? ⟨w.heap.size, 0, none⟩ = some (.int .i64 11) ∧ w'.cell? ⟨w.heap.size, 1, none⟩ = some (.int .i64 52) ∧ w'.cell? ⟨w.heap.size + 1, 1, none⟩ = some (.int .i64 X))
    (first
      | exact ⟨F0d.out.c 0 rfl, F0d.out.c 1 rfl, A0d.out.c 1 rfl⟩
      | exact ⟨F1.out.c 0 rfl, F1.out.c 1 rfl, A1.out.c 1 rfl⟩)
    ((go_at_call 222; refine (HL.out _).mono ?_; rintro o w1 ⟨rfl, hb1⟩; have A1 := Lib.hid (A0d.out.below hb1); have F1 := Lib.hid (F0d.out.below hb1); have B1 := Lib.hid (below_next B0d.out hb1); clear hb1))
  all_goals
    clear A0d F0d B0d
    have p0 := F1.out.c 0 rfl
    have p1 := F1.out.c 1 rfl
    have q0 := A1.out.c 0 rfl
    go_wp2_with (go_at_call 197; refine (HF.out _).mono ?_; rintro o w2 ⟨rfl, hb2⟩; have A2 := Lib.hid (A1.out.below hb2); have F2 := Lib.hid (F1.out.below hb2); have B2 := Lib.hid (below_next B1.out hb2); clear hb2 p0 p1 q0; have p1 := F2.out.c 1 rfl; have q0 := A2.out.c 0 rfl)
    go_ret3
    exact ⟨rfl, B2.out⟩

set_option maxRecDepth 100000 in
set_option maxHeartbeats 400000 in
theorem place_low_64 (o len : Nat) (X S E : Int) (n r : Nat) (w : World) (h0 : o ≠ 0) (ho : o < 18446744073709551616) (hlen : o.log2 + 1 = len) (hX1 : -100000 ≤ X) (hX2 : X ≤ 100000) (hS : S = X - (-1074)) (hE : E = S + (len : Int) - 52) (hl64 : len ≤ 64) (hc : S = (n : Int)) (hc2 : (len : Int) ≤ 53) (hc3 : E < 2047) (hc4 : E ≤ 0) (hr : r = o * 2 ^ n) (hr2 : r < 4503599627370496) :
    Calls Tryz.prog 199 #[fmV 11 52 64, .agg #[.int .u64 (o : Int), .int .i64 X]] w fun o w' => o = .returned (.tuple #[.int .u64 0, .int .u64 (r : Int), .bool true]) ∧ Below w.heap.size w w' := by
  have hw1 : IntKind.i64.wrap (X - (-1074)) = S := (IntWalk.i64_in _ (by omega)).trans hS.symm
  have hw2 : IntKind.i64.wrap (X + 1074) = S := (IntWalk.i64_in _ (by omega)).trans (by omega)
  have hSb1 : -200000 ≤ S := by omega
  have hSb2 : S ≤ 200000 := by omega
  have hEe : S + (len : Int) - 52 = E := hE.symm
  have h0i : ((o : Int) == 0) = false := by simpa using h0
  have HN := Lib.hid (fun W => len_calls o W h0 ho)
  rw [hlen] at HN
  have HL := Lib.hid (fun W => least_calls 11 52 (-1074) W (by omega))
  have HF := Lib.hid (fun W => full_calls 11 52 W (by omega))
  unfold fmV
  have B0 := Lib.hid (((Below.refl _ w).alloc (Nat.le_refl _) (.cells #[.int .i64 11, .int .i64 52, .int .i64 64] 227)).alloc (by simp) (.cells #[.int .u64 (o : Int), .int .i64 X] 262))
  have A0 := Lib.hid (At.new1 w (.cells #[.int .i64 11, .int .i64 52, .int .i64 64] 227) #[.int .u64 (o : Int), .int .i64 X] 262)
  have F0 := Lib.hid ((At.new w #[.int .i64 11, .int .i64 52, .int .i64 64] 227).alloc (.cells #[.int .u64 (o : Int), .int .i64 X] 262))
  obtain ⟨W0, hW0⟩ : ∃ W0, W0 = (w.alloc (.cells #[.int .i64 11, .int .i64 52, .int .i64 64] 227)).alloc (.cells #[.int .u64 (o : Int), .int .i64 X] 262) := ⟨_, rfl⟩
  rw [← hW0] at B0 A0 F0
  have hn : n ≤ 200000 := by omega
  have d1 : decide (S < 0) = false := by rw [hc]; simp
  have d2 : decide (53 < (len : Int)) = false := by simpa using hc2
  have d3 : decide (2047 ≤ E) = false := by simpa using hc3
  have d4 : decide (E ≤ 0) = true := by simpa using hc4
  have hsh : IntKind.u64.wrap ((o : Int) * 2 ^ n) = (r : Int) := by
    have h1 : (o : Int) * 2 ^ n = (r : Int) := by rw [hr]; simp
    rw [h1, IntKind.wrap_u64]; omega
  clear hr
  subst hc
  clear hE hS hlen h0 ho hX1 hX2
  go_enter Tryz.func199, Tryz.ntmps199
  go_wp2_with fail
  refine (HN.out _).mono ?_
  rintro e w1 ⟨rfl, rfl⟩
  go_wp2_with fail
  rw [← hW0]
  clear hW0
  have A0d := Lib.hid (show At W0.drew _ _ _ from A0.out)
  have F0d := Lib.hid (show At W0.drew _ _ _ from F0.out)
  have B0d := Lib.hid B0.out.drew
  clear A0 F0 B0
  go_region_held3 (fun w' => w'.cell? ⟨w.heap.size, 0, none⟩ = some (.int .i64 11) ∧ w'.cell? ⟨w.heap.size, 1, none⟩ = some (.int .i64 52) ∧ w'.cell? ⟨w.heap.size + 1, 1, none⟩ = some (.int .i64 X))
    (first
      | exact ⟨F0d.out.c 0 rfl, F0d.out.c 1 rfl, A0d.out.c 1 rfl⟩
      | exact ⟨F1.out.c 0 rfl, F1.out.c 1 rfl, A1.out.c 1 rfl⟩)
    ((go_at_call 222; refine (HL.out _).mono ?_; rintro o w1 ⟨rfl, hb1⟩; have A1 := Lib.hid (A0d.out.below hb1); have F1 := Lib.hid (F0d.out.below hb1); have B1 := Lib.hid (below_next B0d.out hb1); clear hb1))
  all_goals
    clear A0d F0d B0d
    have p0 := F1.out.c 0 rfl
    have p1 := F1.out.c 1 rfl
    have q0 := A1.out.c 0 rfl
    go_wp2_with (go_at_call 197; refine (HF.out _).mono ?_; rintro o w2 ⟨rfl, hb2⟩; have A2 := Lib.hid (A1.out.below hb2); have F2 := Lib.hid (F1.out.below hb2); have B2 := Lib.hid (below_next B1.out hb2); clear hb2 p0 p1 q0; have p1 := F2.out.c 1 rfl; have q0 := A2.out.c 0 rfl)
    go_quiet (fail)
    go_wp2
    go_ret3
    exact ⟨rfl, below_drewN B2.out _⟩

set_option maxRecDepth 100000 in
set_option maxHeartbeats 400000 in
theorem place_high_64 (o len : Nat) (X S E : Int) (e m r f : Nat) (w : World) (h0 : o ≠ 0) (ho : o < 18446744073709551616) (hlen : o.log2 + 1 = len) (hX1 : -100000 ≤ X) (hX2 : X ≤ 100000) (hS : S = X - (-1074)) (hE : E = S + (len : Int) - 52) (hl64 : len ≤ 64) (hc : 0 ≤ S) (hc2 : (len : Int) ≤ 53) (hc3 : E < 2047) (hc4 : 0 < E) (he : E = (e : Int)) (hm : m = 53 - len) (hr : r = o * 2 ^ m) (hr2 : r < 9007199254740992) (hf : f = r % 4503599627370496) :
    Calls Tryz.prog 199 #[fmV 11 52 64, .agg #[.int .u64 (o : Int), .int .i64 X]] w fun o w' => o = .returned (.tuple #[.int .u64 (e : Int), .int .u64 (f : Int), .bool true]) ∧ Below w.heap.size w w' := by
  have hw1 : IntKind.i64.wrap (X - (-1074)) = S := (IntWalk.i64_in _ (by omega)).trans hS.symm
  have hw2 : IntKind.i64.wrap (X + 1074) = S := (IntWalk.i64_in _ (by omega)).trans (by omega)
  have hSb1 : -200000 ≤ S := by omega
  have hSb2 : S ≤ 200000 := by omega
  have hEe : S + (len : Int) - 52 = E := hE.symm
  have h0i : ((o : Int) == 0) = false := by simpa using h0
  have HN := Lib.hid (fun W => len_calls o W h0 ho)
  rw [hlen] at HN
  have HL := Lib.hid (fun W => least_calls 11 52 (-1074) W (by omega))
  have HF := Lib.hid (fun W => full_calls 11 52 W (by omega))
  unfold fmV
  have B0 := Lib.hid (((Below.refl _ w).alloc (Nat.le_refl _) (.cells #[.int .i64 11, .int .i64 52, .int .i64 64] 227)).alloc (by simp) (.cells #[.int .u64 (o : Int), .int .i64 X] 262))
  have A0 := Lib.hid (At.new1 w (.cells #[.int .i64 11, .int .i64 52, .int .i64 64] 227) #[.int .u64 (o : Int), .int .i64 X] 262)
  have F0 := Lib.hid ((At.new w #[.int .i64 11, .int .i64 52, .int .i64 64] 227).alloc (.cells #[.int .u64 (o : Int), .int .i64 X] 262))
  obtain ⟨W0, hW0⟩ : ∃ W0, W0 = (w.alloc (.cells #[.int .i64 11, .int .i64 52, .int .i64 64] 227)).alloc (.cells #[.int .u64 (o : Int), .int .i64 X] 262) := ⟨_, rfl⟩
  rw [← hW0] at B0 A0 F0
  have d1 : decide (S < 0) = false := by simpa using hc
  have d2 : decide (53 < (len : Int)) = false := by simpa using hc2
  have d3 : decide (2047 ≤ E) = false := by simpa using hc3
  have d4 : decide (E ≤ 0) = false := by simpa using hc4
  have hw3 : IntKind.i64.wrap (53 - (len : Int)) = (m : Int) := (IntWalk.i64_in _ (by omega)).trans (by omega)
  have hw4 : IntKind.i64.wrap (52 + 1) = 53 := by decide
  have hm63 : m < 64 := by omega
  have hsh : IntKind.u64.wrap ((o : Int) * 2 ^ m) = (r : Int) := by
    have h1 : (o : Int) * 2 ^ m = (r : Int) := by rw [hr]; simp
    rw [h1, IntKind.wrap_u64]; omega
  have hand : bits .and .u64 (r : Int) 4503599627370495 = (f : Int) := by rw [hf]; exact and_64 r 52 4503599627370495 (by decide) (by decide) (by omega) _ _ rfl rfl
  have hcv : IntKind.u64.wrap (e : Int) = (e : Int) := by rw [IntKind.wrap_u64]; omega
  clear hr hf hm
  subst he
  clear hE hS hlen h0 ho hX1 hX2
  go_enter Tryz.func199, Tryz.ntmps199
  go_wp2_with fail
  refine (HN.out _).mono ?_
  rintro e w1 ⟨rfl, rfl⟩
  go_wp2_with fail
  rw [← hW0]
  clear hW0
  have A0d := Lib.hid (show At W0.drew _ _ _ from A0.out)
  have F0d := Lib.hid (show At W0.drew _ _ _ from F0.out)
  have B0d := Lib.hid B0.out.drew
  clear A0 F0 B0
  go_region_held3 (fun w' => w'.cell? ⟨w.heap.size, 0, none⟩ = some (.int .i64 11) ∧ w'.cell? ⟨w.heap.size, 1, none⟩ = some (.int .i64 52) ∧ w'.cell? ⟨w.heap.size + 1, 1, none⟩ = some (.int .i64 X))
    (first
      | exact ⟨F0d.out.c 0 rfl, F0d.out.c 1 rfl, A0d.out.c 1 rfl⟩
      | exact ⟨F1.out.c 0 rfl, F1.out.c 1 rfl, A1.out.c 1 rfl⟩)
    ((go_at_call 222; refine (HL.out _).mono ?_; rintro o w1 ⟨rfl, hb1⟩; have A1 := Lib.hid (A0d.out.below hb1); have F1 := Lib.hid (F0d.out.below hb1); have B1 := Lib.hid (below_next B0d.out hb1); clear hb1))
  all_goals
    clear A0d F0d B0d
    have p0 := F1.out.c 0 rfl
    have p1 := F1.out.c 1 rfl
    have q0 := A1.out.c 0 rfl
    go_wp2_with (go_at_call 197; refine (HF.out _).mono ?_; rintro o w2 ⟨rfl, hb2⟩; have A2 := Lib.hid (A1.out.below hb2); have F2 := Lib.hid (F1.out.below hb2); have B2 := Lib.hid (below_next B1.out hb2); clear hb2 p0 p1 q0; have p1 := F2.out.c 1 rfl; have q0 := A2.out.c 0 rfl)
    go_quiet ((go_at_call 220; exact Calls.quiet_of_same (ones_same 52 _ (by omega))))
    go_wp2
    go_ret3
    exact ⟨rfl, below_drewN B2.out _⟩
end Go.Proofs.YtppapkpceejnkaaGreatDoor
