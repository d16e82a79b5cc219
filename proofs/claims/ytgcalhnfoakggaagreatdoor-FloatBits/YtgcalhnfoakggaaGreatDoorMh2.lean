/- The program's own: join, bits. The program's own: resize. -/
import Derived.Test.YtgcalhnfoakggaaGreatDoorMh1
import Derived.LoopN

namespace Go.Proofs.YtgcalhnfoakggaaGreatDoor
open Go.RowKit

theorem below_al {w W : World} (h : Below w.heap.size w W) (o : Obj) : Below w.heap.size w (W.alloc o) := h.alloc h.size o
theorem zero_or (s : Nat) (hs : s < 2) : bits .or .u64 0 (s : Int) = (s : Int) := by
  have := or_64 0 s 1 (by omega) (by decide) (by omega) 0 (s : Int) rfl rfl
  rw [this, Nat.zero_add]

set_option maxRecDepth 100000 in
set_option maxHeartbeats 400000 in
theorem join_16 (C s e f J : Nat) (w : World) (hs : s < 2) (he : e < 32) (hf : f < 1024) (hJ : J = (s * 32 + e) * 1024 + f)
    (c0 : w.cell? ⟨C, 0, none⟩ = some (.int .u64 (s : Int))) (c1 : w.cell? ⟨C, 1, none⟩ = some (.int .i64 1)) (c2 : w.cell? ⟨C, 2, none⟩ = some (.int .u64 (e : Int))) (c3 : w.cell? ⟨C, 3, none⟩ = some (.int .i64 5))
    (c4 : w.cell? ⟨C, 4, none⟩ = some (.int .u64 (f : Int))) (c5 : w.cell? ⟨C, 5, none⟩ = some (.int .i64 10)) :
    Calls Tryz.prog 60 #[.slice (some ⟨C, 0, none⟩) 3 3] w fun o w' => o = .returned (.int .u64 (J : Int)) ∧ Below w.heap.size w w' := by
  have hz := lt_of_cell c0
  have o1 := zero_or s hs
  obtain ⟨s1, hs1⟩ : ∃ s1, s1 = s * 32 := ⟨_, rfl⟩
  obtain ⟨t, ht⟩ : ∃ t, t = s1 + e := ⟨_, rfl⟩
  obtain ⟨t1, ht1⟩ : ∃ t1, t1 = t * 1024 := ⟨_, rfl⟩
  have w1 : IntKind.u64.wrap ((s : Int) * 32) = (s1 : Int) := by rw [IntKind.wrap_u64]; omega
  have w2 : IntKind.u64.wrap ((t : Int) * 1024) = (t1 : Int) := by rw [IntKind.wrap_u64]; omega
  have o2 : bits .or .u64 (s1 : Int) (e : Int) = (t : Int) := by rw [ht]; exact or_64 s1 e 5 (by omega) (by omega) (by omega) _ _ rfl rfl
  have o3 : bits .or .u64 (t1 : Int) (f : Int) = (J : Int) := by rw [show J = t1 + f from by omega]; exact or_64 t1 f 10 (by omega) (by omega) (by omega) _ _ rfl rfl
  clear hs1 ht ht1 hJ he hf hs
  go_enter Tryz.func60, Tryz.ntmps60
  go_wp2
  refine wp_loop_rounds 4 ?_
  rw [rounds_succ]
  go_wp2
  go_quiet (fail)
  go_wp2
  rw [rounds_succ]
  go_wp2
  go_quiet (fail)
  go_wp2
  rw [rounds_succ]
  go_wp2
  go_quiet (fail)
  go_wp2
  rw [rounds_succ]
  go_wp2
  go_ret
  refine ⟨rfl, ?_⟩
  exact below_drewN (below_al (below_drewN (below_al (below_drewN (below_al (Below.refl _ _) _) _) _) _) _) _

set_option maxRecDepth 100000 in
set_option maxHeartbeats 400000 in
theorem join_32 (C s e f J : Nat) (w : World) (hs : s < 2) (he : e < 256) (hf : f < 8388608) (hJ : J = (s * 256 + e) * 8388608 + f)
    (c0 : w.cell? ⟨C, 0, none⟩ = some (.int .u64 (s : Int))) (c1 : w.cell? ⟨C, 1, none⟩ = some (.int .i64 1)) (c2 : w.cell? ⟨C, 2, none⟩ = some (.int .u64 (e : Int))) (c3 : w.cell? ⟨C, 3, none⟩ = some (.int .i64 8))
    (c4 : w.cell? ⟨C, 4, none⟩ = some (.int .u64 (f : Int))) (c5 : w.cell? ⟨C, 5, none⟩ = some (.int .i64 23)) :
    Calls Tryz.prog 60 #[.slice (some ⟨C, 0, none⟩) 3 3] w fun o w' => o = .returned (.int .u64 (J : Int)) ∧ Below w.heap.size w w' := by
  have hz := lt_of_cell c0
  have o1 := zero_or s hs
  obtain ⟨s1, hs1⟩ : ∃ s1, s1 = s * 256 := ⟨_, rfl⟩
  obtain ⟨t, ht⟩ : ∃ t, t = s1 + e := ⟨_, rfl⟩
  obtain ⟨t1, ht1⟩ : ∃ t1, t1 = t * 8388608 := ⟨_, rfl⟩
  have w1 : IntKind.u64.wrap ((s : Int) * 256) = (s1 : Int) := by rw [IntKind.wrap_u64]; omega
  have w2 : IntKind.u64.wrap ((t : Int) * 8388608) = (t1 : Int) := by rw [IntKind.wrap_u64]; omega
  have o2 : bits .or .u64 (s1 : Int) (e : Int) = (t : Int) := by rw [ht]; exact or_64 s1 e 8 (by omega) (by omega) (by omega) _ _ rfl rfl
  have o3 : bits .or .u64 (t1 : Int) (f : Int) = (J : Int) := by rw [show J = t1 + f from by omega]; exact or_64 t1 f 23 (by omega) (by omega) (by omega) _ _ rfl rfl
  clear hs1 ht ht1 hJ he hf hs
  go_enter Tryz.func60, Tryz.ntmps60
  go_wp2
  refine wp_loop_rounds 4 ?_
  rw [rounds_succ]
  go_wp2
  go_quiet (fail)
  go_wp2
  rw [rounds_succ]
  go_wp2
  go_quiet (fail)
  go_wp2
  rw [rounds_succ]
  go_wp2
  go_quiet (fail)
  go_wp2
  rw [rounds_succ]
  go_wp2
  go_ret
  refine ⟨rfl, ?_⟩
  exact below_drewN (below_al (below_drewN (below_al (below_drewN (below_al (Below.refl _ _) _) _) _) _) _) _

set_option maxRecDepth 100000 in
set_option maxHeartbeats 400000 in
theorem join_64 (C s e f J : Nat) (w : World) (hs : s < 2) (he : e < 2048) (hf : f < 4503599627370496) (hJ : J = (s * 2048 + e) * 4503599627370496 + f)
    (c0 : w.cell? ⟨C, 0, none⟩ = some (.int .u64 (s : Int))) (c1 : w.cell? ⟨C, 1, none⟩ = some (.int .i64 1)) (c2 : w.cell? ⟨C, 2, none⟩ = some (.int .u64 (e : Int))) (c3 : w.cell? ⟨C, 3, none⟩ = some (.int .i64 11))
    (c4 : w.cell? ⟨C, 4, none⟩ = some (.int .u64 (f : Int))) (c5 : w.cell? ⟨C, 5, none⟩ = some (.int .i64 52)) :
    Calls Tryz.prog 60 #[.slice (some ⟨C, 0, none⟩) 3 3] w fun o w' => o = .returned (.int .u64 (J : Int)) ∧ Below w.heap.size w w' := by
  have hz := lt_of_cell c0
  have o1 := zero_or s hs
  obtain ⟨s1, hs1⟩ : ∃ s1, s1 = s * 2048 := ⟨_, rfl⟩
  obtain ⟨t, ht⟩ : ∃ t, t = s1 + e := ⟨_, rfl⟩
  obtain ⟨t1, ht1⟩ : ∃ t1, t1 = t * 4503599627370496 := ⟨_, rfl⟩
  have w1 : IntKind.u64.wrap ((s : Int) * 2048) = (s1 : Int) := by rw [IntKind.wrap_u64]; omega
  have w2 : IntKind.u64.wrap ((t : Int) * 4503599627370496) = (t1 : Int) := by rw [IntKind.wrap_u64]; omega
  have o2 : bits .or .u64 (s1 : Int) (e : Int) = (t : Int) := by rw [ht]; exact or_64 s1 e 11 (by omega) (by omega) (by omega) _ _ rfl rfl
  have o3 : bits .or .u64 (t1 : Int) (f : Int) = (J : Int) := by rw [show J = t1 + f from by omega]; exact or_64 t1 f 52 (by omega) (by omega) (by omega) _ _ rfl rfl
  clear hs1 ht ht1 hJ he hf hs
  go_enter Tryz.func60, Tryz.ntmps60
  go_wp2
  refine wp_loop_rounds 4 ?_
  rw [rounds_succ]
  go_wp2
  go_quiet (fail)
  go_wp2
  rw [rounds_succ]
  go_wp2
  go_quiet (fail)
  go_wp2
  rw [rounds_succ]
  go_wp2
  go_quiet (fail)
  go_wp2
  rw [rounds_succ]
  go_wp2
  go_ret
  refine ⟨rfl, ?_⟩
  exact below_drewN (below_al (below_drewN (below_al (below_drewN (below_al (Below.refl _ _) _) _) _) _) _) _

set_option maxRecDepth 100000 in
set_option maxHeartbeats 400000 in
theorem bits_16 (s e f : Nat) (w : World) (hs : s < 2) (he : e < 32) (hf : f < 1024) :
    Calls Tryz.prog 37 #[fmV 5 10 16, .int .u64 (s : Int), .int .u64 (e : Int), .int .u64 (f : Int)] w fun o w' => o = .returned (.int .u64 (((s * 32 + e) * 1024 + f : Nat) : Int)) ∧ Below w.heap.size w w' := by
  obtain ⟨J, hJ⟩ : ∃ J, J = (s * 32 + e) * 1024 + f := ⟨_, rfl⟩
  rw [← hJ]
  have HJ := Lib.hid (fun C W c0 c1 c2 c3 c4 c5 => join_16 C s e f J W hs he hf hJ c0 c1 c2 c3 c4 c5)
  clear hJ hs he hf
  unfold fmV
  go_enter Tryz.func37, Tryz.ntmps37
  go_wp2_with fail
  have A1 := At.new1 w (.cells #[.int .i64 5, .int .i64 10, .int .i64 16] 42) #[.int .u64 (s : Int), .int .i64 1, .int .u64 (e : Int), .int .i64 5, .int .u64 (f : Int), .int .i64 10] 93
  refine (HJ.out _ _ (A1.c 0 rfl) (A1.c 1 rfl) (A1.c 2 rfl) (A1.c 3 rfl) (A1.c 4 rfl) (A1.c 5 rfl)).mono ?_
  rintro o w1 ⟨rfl, hb1⟩
  have B1 := Lib.hid (below_next (below_al (below_al (Below.refl _ w) (.cells #[.int .i64 5, .int .i64 10, .int .i64 16] 42)) (.cells #[.int .u64 (s : Int), .int .i64 1, .int .u64 (e : Int), .int .i64 5, .int .u64 (f : Int), .int .i64 10] 93)) hb1)
  clear hb1 A1
  go_wp2
  go_ret
  exact ⟨rfl, B1.out⟩

set_option maxRecDepth 100000 in
set_option maxHeartbeats 400000 in
theorem bits_32 (s e f : Nat) (w : World) (hs : s < 2) (he : e < 256) (hf : f < 8388608) :
    Calls Tryz.prog 37 #[fmV 8 23 32, .int .u64 (s : Int), .int .u64 (e : Int), .int .u64 (f : Int)] w fun o w' => o = .returned (.int .u64 (((s * 256 + e) * 8388608 + f : Nat) : Int)) ∧ Below w.heap.size w w' := by
  obtain ⟨J, hJ⟩ : ∃ J, J = (s * 256 + e) * 8388608 + f := ⟨_, rfl⟩
  rw [← hJ]
  have HJ := Lib.hid (fun C W c0 c1 c2 c3 c4 c5 => join_32 C s e f J W hs he hf hJ c0 c1 c2 c3 c4 c5)
  clear hJ hs he hf
  unfold fmV
  go_enter Tryz.func37, Tryz.ntmps37
  go_wp2_with fail
  have A1 := At.new1 w (.cells #[.int .i64 8, .int .i64 23, .int .i64 32] 42) #[.int .u64 (s : Int), .int .i64 1, .int .u64 (e : Int), .int .i64 8, .int .u64 (f : Int), .int .i64 23] 93
  refine (HJ.out _ _ (A1.c 0 rfl) (A1.c 1 rfl) (A1.c 2 rfl) (A1.c 3 rfl) (A1.c 4 rfl) (A1.c 5 rfl)).mono ?_
  rintro o w1 ⟨rfl, hb1⟩
  have B1 := Lib.hid (below_next (below_al (below_al (Below.refl _ w) (.cells #[.int .i64 8, .int .i64 23, .int .i64 32] 42)) (.cells #[.int .u64 (s : Int), .int .i64 1, .int .u64 (e : Int), .int .i64 8, .int .u64 (f : Int), .int .i64 23] 93)) hb1)
  clear hb1 A1
  go_wp2
  go_ret
  exact ⟨rfl, B1.out⟩

set_option maxRecDepth 100000 in
set_option maxHeartbeats 400000 in
theorem bits_64 (s e f : Nat) (w : World) (hs : s < 2) (he : e < 2048) (hf : f < 4503599627370496) :
    Calls Tryz.prog 37 #[fmV 11 52 64, .int .u64 (s : Int), .int .u64 (e : Int), .int .u64 (f : Int)] w fun o w' => o = .returned (.int .u64 (((s * 2048 + e) * 4503599627370496 + f : Nat) : Int)) ∧ Below w.heap.size w w' := by
  obtain ⟨J, hJ⟩ : ∃ J, J = (s * 2048 + e) * 4503599627370496 + f := ⟨_, rfl⟩
  rw [← hJ]
  have HJ := Lib.hid (fun C W c0 c1 c2 c3 c4 c5 => join_64 C s e f J W hs he hf hJ c0 c1 c2 c3 c4 c5)
  clear hJ hs he hf
  unfold fmV
  go_enter Tryz.func37, Tryz.ntmps37
  go_wp2_with fail
  have A1 := At.new1 w (.cells #[.int .i64 11, .int .i64 52, .int .i64 64] 42) #[.int .u64 (s : Int), .int .i64 1, .int .u64 (e : Int), .int .i64 11, .int .u64 (f : Int), .int .i64 52] 93
  refine (HJ.out _ _ (A1.c 0 rfl) (A1.c 1 rfl) (A1.c 2 rfl) (A1.c 3 rfl) (A1.c 4 rfl) (A1.c 5 rfl)).mono ?_
  rintro o w1 ⟨rfl, hb1⟩
  have B1 := Lib.hid (below_next (below_al (below_al (Below.refl _ w) (.cells #[.int .i64 11, .int .i64 52, .int .i64 64] 42)) (.cells #[.int .u64 (s : Int), .int .i64 1, .int .u64 (e : Int), .int .i64 11, .int .u64 (f : Int), .int .i64 52] 93)) hb1)
  clear hb1 A1
  go_wp2
  go_ret
  exact ⟨rfl, B1.out⟩

theorem bits_calls (k p wd : Nat) (L : Int) (s e f : Nat) (w : World) (hF : IsF k p wd L) (hs : s < 2) (he : e < 2 ^ k) (hf : f < 2 ^ p) :
    Calls Tryz.prog 37 #[fmV k p wd, .int .u64 (s : Int), .int .u64 (e : Int), .int .u64 (f : Int)] w fun o w' => o = .returned (.int .u64 ((jn (2 ^ k) p s e f : Nat) : Int)) ∧ Below w.heap.size w w' := by
  rcases hF with ⟨rfl, rfl, rfl, rfl⟩ | ⟨rfl, rfl, rfl, rfl⟩ | ⟨rfl, rfl, rfl, rfl⟩
  · rw [e10] at hf; exact bits_16 s e f w hs he hf
  · rw [e23] at hf; exact bits_32 s e f w hs he hf
  · rw [e52] at hf; exact bits_64 s e f w hs he hf
end Go.Proofs.YtgcalhnfoakggaaGreatDoor

namespace Go.Proofs.YtgcalhnfoakggaaGreatDoor
open Go.RowKit

set_option maxRecDepth 100000 in
set_option maxHeartbeats 400000 in
theorem resize_10_52 (f : Nat) (w : World) (hf : f < 1024) :
    Calls Tryz.prog 41 #[.int .u64 (f : Int), .int .i64 10, .int .i64 52] w fun o w' => o = .returned (.tuple #[.int .u64 ((f * 18014398509481984 / 4096 : Nat) : Int), .bool (decide (f * 18014398509481984 * 4503599627370496 % 18446744073709551616 = 0))]) ∧ Below w.heap.size w w' := by
  obtain ⟨u, hu⟩ : ∃ u, u = f * 18014398509481984 := ⟨_, rfl⟩
  have w1 : IntKind.u64.wrap ((f : Int) * 18014398509481984) = (u : Int) := by rw [IntKind.wrap_u64]; omega
  have w1' : (f : Int) * 18014398509481984 = (u : Int) := by omega
  have hu1 : u < 18446744073709551616 := by omega
  obtain ⟨v, hv⟩ : ∃ v, v = u * 4503599627370496 % 18446744073709551616 := ⟨_, rfl⟩
  have w2 : IntKind.u64.wrap ((u : Int) * 4503599627370496) = (v : Int) := by rw [IntKind.wrap_u64]; omega
  obtain ⟨q, hq⟩ : ∃ q, q = u / 4096 := ⟨_, rfl⟩
  have hq1 : (u : Int) / 4096 = (q : Int) := by omega
  rw [← hu, ← hv, ← hq]
  have hd : ((v : Int) == 0) = decide (v = 0) := by rw [Bool.eq_iff_iff]; simp
  obtain ⟨d, hd2⟩ : ∃ d, d = decide (v = 0) := ⟨_, rfl⟩
  rw [← hd2] at hd ⊢
  clear hu hv hq hd2
  go_enter Tryz.func41, Tryz.ntmps41
  go_wp2
  go_quiet (fail)
  go_wp2
  go_ret2
  exact ⟨rfl, below_drewN (Below.refl _ _) _⟩

set_option maxRecDepth 100000 in
set_option maxHeartbeats 400000 in
theorem resize_23_52 (f : Nat) (w : World) (hf : f < 8388608) :
    Calls Tryz.prog 41 #[.int .u64 (f : Int), .int .i64 23, .int .i64 52] w fun o w' => o = .returned (.tuple #[.int .u64 ((f * 2199023255552 / 4096 : Nat) : Int), .bool (decide (f * 2199023255552 * 4503599627370496 % 18446744073709551616 = 0))]) ∧ Below w.heap.size w w' := by
  obtain ⟨u, hu⟩ : ∃ u, u = f * 2199023255552 := ⟨_, rfl⟩
  have w1 : IntKind.u64.wrap ((f : Int) * 2199023255552) = (u : Int) := by rw [IntKind.wrap_u64]; omega
  have w1' : (f : Int) * 2199023255552 = (u : Int) := by omega
  have hu1 : u < 18446744073709551616 := by omega
  obtain ⟨v, hv⟩ : ∃ v, v = u * 4503599627370496 % 18446744073709551616 := ⟨_, rfl⟩
  have w2 : IntKind.u64.wrap ((u : Int) * 4503599627370496) = (v : Int) := by rw [IntKind.wrap_u64]; omega
  obtain ⟨q, hq⟩ : ∃ q, q = u / 4096 := ⟨_, rfl⟩
  have hq1 : (u : Int) / 4096 = (q : Int) := by omega
  rw [← hu, ← hv, ← hq]
  have hd : ((v : Int) == 0) = decide (v = 0) := by rw [Bool.eq_iff_iff]; simp
  obtain ⟨d, hd2⟩ : ∃ d, d = decide (v = 0) := ⟨_, rfl⟩
  rw [← hd2] at hd ⊢
  clear hu hv hq hd2
  go_enter Tryz.func41, Tryz.ntmps41
  go_wp2
  go_quiet (fail)
  go_wp2
  go_ret2
  exact ⟨rfl, below_drewN (Below.refl _ _) _⟩

set_option maxRecDepth 100000 in
set_option maxHeartbeats 400000 in
theorem resize_52_52 (f : Nat) (w : World) (hf : f < 4503599627370496) :
    Calls Tryz.prog 41 #[.int .u64 (f : Int), .int .i64 52, .int .i64 52] w fun o w' => o = .returned (.tuple #[.int .u64 ((f * 4096 / 4096 : Nat) : Int), .bool (decide (f * 4096 * 4503599627370496 % 18446744073709551616 = 0))]) ∧ Below w.heap.size w w' := by
  obtain ⟨u, hu⟩ : ∃ u, u = f * 4096 := ⟨_, rfl⟩
  have w1 : IntKind.u64.wrap ((f : Int) * 4096) = (u : Int) := by rw [IntKind.wrap_u64]; omega
  have w1' : (f : Int) * 4096 = (u : Int) := by omega
  have hu1 : u < 18446744073709551616 := by omega
  obtain ⟨v, hv⟩ : ∃ v, v = u * 4503599627370496 % 18446744073709551616 := ⟨_, rfl⟩
  have w2 : IntKind.u64.wrap ((u : Int) * 4503599627370496) = (v : Int) := by rw [IntKind.wrap_u64]; omega
  obtain ⟨q, hq⟩ : ∃ q, q = u / 4096 := ⟨_, rfl⟩
  have hq1 : (u : Int) / 4096 = (q : Int) := by omega
  rw [← hu, ← hv, ← hq]
  have hd : ((v : Int) == 0) = decide (v = 0) := by rw [Bool.eq_iff_iff]; simp
  obtain ⟨d, hd2⟩ : ∃ d, d = decide (v = 0) := ⟨_, rfl⟩
  rw [← hd2] at hd ⊢
  clear hu hv hq hd2
  go_enter Tryz.func41, Tryz.ntmps41
  go_wp2
  go_quiet (fail)
  go_wp2
  go_ret2
  exact ⟨rfl, below_drewN (Below.refl _ _) _⟩

set_option maxRecDepth 100000 in
set_option maxHeartbeats 400000 in
theorem resize_52_10 (f : Nat) (w : World) (hf : f < 4503599627370496) :
    Calls Tryz.prog 41 #[.int .u64 (f : Int), .int .i64 52, .int .i64 10] w fun o w' => o = .returned (.tuple #[.int .u64 ((f * 4096 / 18014398509481984 : Nat) : Int), .bool (decide (f * 4096 * 1024 % 18446744073709551616 = 0))]) ∧ Below w.heap.size w w' := by
  obtain ⟨u, hu⟩ : ∃ u, u = f * 4096 := ⟨_, rfl⟩
  have w1 : IntKind.u64.wrap ((f : Int) * 4096) = (u : Int) := by rw [IntKind.wrap_u64]; omega
  have w1' : (f : Int) * 4096 = (u : Int) := by omega
  have hu1 : u < 18446744073709551616 := by omega
  obtain ⟨v, hv⟩ : ∃ v, v = u * 1024 % 18446744073709551616 := ⟨_, rfl⟩
  have w2 : IntKind.u64.wrap ((u : Int) * 1024) = (v : Int) := by rw [IntKind.wrap_u64]; omega
  obtain ⟨q, hq⟩ : ∃ q, q = u / 18014398509481984 := ⟨_, rfl⟩
  have hq1 : (u : Int) / 18014398509481984 = (q : Int) := by omega
  rw [← hu, ← hv, ← hq]
  have hd : ((v : Int) == 0) = decide (v = 0) := by rw [Bool.eq_iff_iff]; simp
  obtain ⟨d, hd2⟩ : ∃ d, d = decide (v = 0) := ⟨_, rfl⟩
  rw [← hd2] at hd ⊢
  clear hu hv hq hd2
  go_enter Tryz.func41, Tryz.ntmps41
  go_wp2
  go_quiet (fail)
  go_wp2
  go_ret2
  exact ⟨rfl, below_drewN (Below.refl _ _) _⟩

set_option maxRecDepth 100000 in
set_option maxHeartbeats 400000 in
theorem resize_52_23 (f : Nat) (w : World) (hf : f < 4503599627370496) :
    Calls Tryz.prog 41 #[.int .u64 (f : Int), .int .i64 52, .int .i64 23] w fun o w' => o = .returned (.tuple #[.int .u64 ((f * 4096 / 2199023255552 : Nat) : Int), .bool (decide (f * 4096 * 8388608 % 18446744073709551616 = 0))]) ∧ Below w.heap.size w w' := by
  obtain ⟨u, hu⟩ : ∃ u, u = f * 4096 := ⟨_, rfl⟩
  have w1 : IntKind.u64.wrap ((f : Int) * 4096) = (u : Int) := by rw [IntKind.wrap_u64]; omega
  have w1' : (f : Int) * 4096 = (u : Int) := by omega
  have hu1 : u < 18446744073709551616 := by omega
  obtain ⟨v, hv⟩ : ∃ v, v = u * 8388608 % 18446744073709551616 := ⟨_, rfl⟩
  have w2 : IntKind.u64.wrap ((u : Int) * 8388608) = (v : Int) := by rw [IntKind.wrap_u64]; omega
  obtain ⟨q, hq⟩ : ∃ q, q = u / 2199023255552 := ⟨_, rfl⟩
  have hq1 : (u : Int) / 2199023255552 = (q : Int) := by omega
  rw [← hu, ← hv, ← hq]
  have hd : ((v : Int) == 0) = decide (v = 0) := by rw [Bool.eq_iff_iff]; simp
  obtain ⟨d, hd2⟩ : ∃ d, d = decide (v = 0) := ⟨_, rfl⟩
  rw [← hd2] at hd ⊢
  clear hu hv hq hd2
  go_enter Tryz.func41, Tryz.ntmps41
  go_wp2
  go_quiet (fail)
  go_wp2
  go_ret2
  exact ⟨rfl, below_drewN (Below.refl _ _) _⟩
end Go.Proofs.YtgcalhnfoakggaaGreatDoor
