/- The program's own: join, bits. The program's own: resize. The program's own: place, turn. The program's own: turn. The program's own: turn is what is turned. -/
import Derived.Test.YtppapkpceejnkaaGreatDoorMg
import Derived.LoopN
import Derived.Test.YtppapkpceejnkaaGreatDoorH7

namespace Go.Proofs.YtppapkpceejnkaaGreatDoor
open Go.RowKit

theorem below_al {w W : World} (h : Below w.heap.size w W) (o : Obj) : Below w.heap.size w (W.alloc o) := h.alloc h.size o
theorem zero_or (s : Nat) (hs : s < 2) : bits .or .u64 0 (s : Int) = (s : Int) := by
  have := or_64 0 s 1 (by omega) (by decide) (by omega) 0 (s : Int) rfl rfl
  rw [this, Nat.zero_add]

set_option maxRecDepth 100000 in
set_option maxHeartbeats 400000 in
theorem join_16 (C s e f J : Nat) (w : World) (hs : s < 2) (he : e < 32) (hf : f < 1024) (hJ : J = (s * 32 + e) * 1024 + f)
    (c0 : w.cell? ⟨C, 0, none⟩ = some (.int .u64 (s : Int))) (c1 : w.cell? ⟨C, 1, none⟩ = some (.int .i64 1)) (c2 : w.cell? ⟨C, 2, none⟩ = some (.int .u64 (e : Int))) (c3 : w.cell? ⟨C, 3, none⟩ = some (.int .i64 5))
    (c4 : w.cell? ⟨C, 4, none⟩ = some (.int .u64 (f : Int))) (c5 : w.cell? ⟨C, 5, none⟩ = some (.int .i64 10)) :
    Calls Tryz.prog 224 #[.slice (some ⟨C, 0, none⟩) 3 3] w fun o w' => o = .returned (.int .u64 (J : Int)) ∧ Below w.heap.size w w' := by
  have hz := lt_of_cell c0
  have o1 := zero_or s hs
  obtain ⟨s1, hs1⟩ : ∃ s1, s1 = s * 32 := ⟨_, rfl⟩
  obtain ⟨t, ht⟩ : ∃ t, t = s1 + e := ⟨_, rfl⟩
  obtain ⟨t1, ht1⟩ : ∃ t1, t1 = t * 1024 := ⟨_, rfl⟩
  have w1 : IntKind.u64.wrap ((s : Int) * 32) = (s1 : Int) := by rw [IntKind.wrap_u64]; omega
  have w2 : IntKind.u64.wrap ((t : Int) * 1024) = (t1 : Int) := by rw [IntKind.wrap_u64]; omega
  have o2 : bits .or .u64 (s1 : Int) (e : Int) = (t : Int) := by rw [ht]; exact or_64 s1 e 5 (by omega) (by omega) (by omega) _ _ rfl rfl
  have o3 : bits .or .u64 (t1 : Int) (f : Int) = (J : Int) := by rw [show J = t1 + f from by omega]; exact or_64 t1 f 10 (by omega) (by omega) (by omega) _ _ rfl rfl
  clear hs1 ht ht1 hJ he hf hs
  go_enter Tryz.func224, Tryz.ntmps224
  go_wp2
  refine wp_loop_rounds 4 ?_
  rw [rounds_succ]
  go_wp2
  go_quiet (fail)
  go_wp2
  rw [rounds_succ]
  go_wp2
  go_quiet (fail)
  go_wp2
  rw [rounds_succ]
  go_wp2
  go_quiet (fail)
  go_wp2
  rw [rounds_succ]
  go_wp2
  go_ret
  refine ⟨rfl, ?_⟩
  exact below_drewN (below_al (below_drewN (below_al (below_drewN (below_al (Below.refl _ _) _) _) _) _) _) _

set_option maxRecDepth 100000 in
set_option maxHeartbeats 400000 in
theorem join_32 (C s e f J : Nat) (w : World) (hs : s < 2) (he : e < 256) (hf : f < 8388608) (hJ : J = (s * 256 + e) * 8388608 + f)
    (c0 : w.cell? ⟨C, 0, none⟩ = some (.int .u64 (s : Int))) (c1 : w.cell? ⟨C, 1, none⟩ = some (.int .i64 1)) (c2 : w.cell? ⟨C, 2, none⟩ = some (.int .u64 (e : Int))) (c3 : w.cell? ⟨C, 3, none⟩ = some (.int .i64 8))
    (c4 : w.cell? ⟨C, 4, none⟩ = some (.int .u64 (f : Int))) (c5 : w.cell? ⟨C, 5, none⟩ = some (.int .i64 23)) :
    Calls Tryz.prog 224 #[.slice (some ⟨C, 0, none⟩) 3 3] w fun o w' => o = .returned (.int .u64 (J : Int)) ∧ Below w.heap.size w w' := by
  have hz := lt_of_cell c0
  have o1 := zero_or s hs
  obtain ⟨s1, hs1⟩ : ∃ s1, s1 = s * 256 := ⟨_, rfl⟩
  obtain ⟨t, ht⟩ : ∃ t, t = s1 + e := ⟨_, rfl⟩
  obtain ⟨t1, ht1⟩ : ∃ t1, t1 = t * 8388608 := ⟨_, rfl⟩
  have w1 : IntKind.u64.wrap ((s : Int) * 256) = (s1 : Int) := by rw [IntKind.wrap_u64]; omega
  have w2 : IntKind.u64.wrap ((t : Int) * 8388608) = (t1 : Int) := by rw [IntKind.wrap_u64]; omega
  have o2 : bits .or .u64 (s1 : Int) (e : Int) = (t : Int) := by rw [ht]; exact or_64 s1 e 8 (by omega) (by omega) (by omega) _ _ rfl rfl
  have o3 : bits .or .u64 (t1 : Int) (f : Int) = (J : Int) := by rw [show J = t1 + f from by omega]; exact or_64 t1 f 23 (by omega) (by omega) (by omega) _ _ rfl rfl
  clear hs1 ht ht1 hJ he hf hs
  go_enter Tryz.func224, Tryz.ntmps224
  go_wp2
  refine wp_loop_rounds 4 ?_
  rw [rounds_succ]
  go_wp2
  go_quiet (fail)
  go_wp2
  rw [rounds_succ]
  go_wp2
  go_quiet (fail)
  go_wp2
  rw [rounds_succ]
  go_wp2
  go_quiet (fail)
  go_wp2
  rw [rounds_succ]
  go_wp2
  go_ret
  refine ⟨rfl, ?_⟩
  exact below_drewN (below_al (below_drewN (below_al (below_drewN (below_al (Below.refl _ _) _) _) _) _) _) _

set_option maxRecDepth 100000 in
set_option maxHeartbeats 400000 in
theorem join_64 (C s e f J : Nat) (w : World) (hs : s < 2) (he : e < 2048) (hf : f < 4503599627370496) (hJ : J = (s * 2048 + e) * 4503599627370496 + f)
    (c0 : w.cell? ⟨C, 0, none⟩ = some (.int .u64 (s : Int))) (c1 : w.cell? ⟨C, 1, none⟩ = some (.int .i64 1)) (c2 : w.cell? ⟨C, 2, none⟩ = some (.int .u64 (e : Int))) (c3 : w.cell? ⟨C, 3, none⟩ = some (.int .i64 11))
    (c4 : w.cell? ⟨C, 4, none⟩ = some (.int .u64 (f : Int))) (c5 : w.cell? ⟨C, 5, none⟩ = some (.int .i64 52)) :
    Calls Tryz.prog 224 #[.slice (some ⟨C, 0, none⟩) 3 3] w fun o w' => o = .returned (.int .u64 (J : Int)) ∧ Below w.heap.size w w' := by
  have hz := lt_of_cell c0
  have o1 := zero_or s hs
  obtain ⟨s1, hs1⟩ : ∃ s1, s1 = s * 2048 := ⟨_, rfl⟩
  obtain ⟨t, ht⟩ : ∃ t, t = s1 + e := ⟨_, rfl⟩
  obtain ⟨t1, ht1⟩ : ∃ t1, t1 = t * 4503599627370496 := ⟨_, rfl⟩
  have w1 : IntKind.u64.wrap ((s : Int) * 2048) = (s1 : Int) := by rw [IntKind.wrap_u64]; omega
  have w2 : IntKind.u64.wrap ((t : Int) * 4503599627370496) = (t1 : Int) := by rw [IntKind.wrap_u64]; omega
  have o2 : bits .or .u64 (s1 : Int) (e : Int) = (t : Int) := by rw [ht]; exact or_64 s1 e 11 (by omega) (by omega) (by omega) _ _ rfl rfl
  have o3 : bits .or .u64 (t1 : Int) (f : Int) = (J : Int) := by rw [show J = t1 + f from by omega]; exact or_64 t1 f 52 (by omega) (by omega) (by omega) _ _ rfl rfl
  clear hs1 ht ht1 hJ he hf hs
  go_enter Tryz.func224, Tryz.ntmps224
  go_wp2
  refine wp_loop_rounds 4 ?_
  rw [rounds_succ]
  go_wp2
  go_quiet (fail)
  go_wp2
  rw [rounds_succ]
  go_wp2
  go_quiet (fail)
  go_wp2
  rw [rounds_succ]
  go_wp2
  go_quiet (fail)
  go_wp2
  rw [rounds_succ]
  go_wp2
  go_ret
  refine ⟨rfl, ?_⟩
  exact below_drewN (below_al (below_drewN (below_al (below_drewN (below_al (Below.refl _ _) _) _) _) _) _) _

set_option maxRecDepth 100000 in
set_option maxHeartbeats 400000 in
theorem bits_16 (s e f : Nat) (w : World) (hs : s < 2) (he : e < 32) (hf : f < 1024) :
    Calls Tryz.prog 201 #[fmV 5 10 16, .int .u64 (s : Int), .int .u64 (e : Int), .int .u64 (f : Int)] w fun o w' => o = .returned (.int .u64 (((s * 32 + e) * 1024 + f : Nat) : Int)) ∧ Below w.heap.size w w' := by
  obtain ⟨J, hJ⟩ : ∃ J, J = (s * 32 + e) * 1024 + f := ⟨_, rfl⟩
  rw [← hJ]
  have HJ := Lib.hid (fun C W c0 c1 c2 c3 c4 c5 => join_16 C s e f J W hs he hf hJ c0 c1 c2 c3 c4 c5)
  clear hJ hs he hf
  unfold fmV
  go_enter Tryz.func201, Tryz.ntmps201
  go_wp2_with fail
  have A1 := At.new1 w (.cells #[.int .i64 5, .int .i64 10, .int .i64 16] 227) #[.int .u64 (s : Int), .int .i64 1, .int .u64 (e : Int), .int .i64 5, .int .u64 (f : Int), .int .i64 10] 290
  refine (HJ.out _ _ (A1.c 0 rfl) (A1.c 1 rfl) (A1.c 2 rfl) (A1.c 3 rfl) (A1.c 4 rfl) (A1.c 5 rfl)).mono ?_
  rintro o w1 ⟨rfl, hb1⟩
  have B1 := Lib.hid (below_next (below_al (below_al (Below.refl _ w) (.cells #[.int .i64 5, .int .i64 10, .int .i64 16] 227)) (.cells #[.int .u64 (s : Int), .int .i64 1, .int .u64 (e : Int), .int .i64 5, .int .u64 (f : Int), .int .i64 10] 290)) hb1)
  clear hb1 A1
  go_wp2
  go_ret
  exact ⟨rfl, B1.out⟩

set_option maxRecDepth 100000 in
set_option maxHeartbeats 400000 in
theorem bits_32 (s e f : Nat) (w : World) (hs : s < 2) (he : e < 256) (hf : f < 8388608) :
    Calls Tryz.prog 201 #[fmV 8 23 32, .int .u64 (s : Int), .int .u64 (e : Int), .int .u64 (f : Int)] w fun o w' => o = .returned (.int .u64 (((s * 256 + e) * 8388608 + f : Nat) : Int)) ∧ Below w.heap.size w w' := by
  obtain ⟨J, hJ⟩ : ∃ J, J = (s * 256 + e) * 8388608 + f := ⟨_, rfl⟩
  rw [← hJ]
  have HJ := Lib.hid (fun C W c0 c1 c2 c3 c4 c5 => join_32 C s e f J W hs he hf hJ c0 c1 c2 c3 c4 c5)
  clear hJ hs he hf
  unfold fmV
  go_enter Tryz.func201, Tryz.ntmps201
  go_wp2_with fail
  have A1 := At.new1 w (.cells #[.int .i64 8, .int .i64 23, .int .i64 32] 227) #[.int .u64 (s : Int), .int .i64 1, .int .u64 (e : Int), .int .i64 8, .int .u64 (f : Int), .int .i64 23] 290
  refine (HJ.out _ _ (A1.c 0 rfl) (A1.c 1 rfl) (A1.c 2 rfl) (A1.c 3 rfl) (A1.c 4 rfl) (A1.c 5 rfl)).mono ?_
  rintro o w1 ⟨rfl, hb1⟩
  have B1 := Lib.hid (below_next (below_al (below_al (Below.refl _ w) (.cells #[.int .i64 8, .int .i64 23, .int .i64 32] 227)) (.cells #[.int .u64 (s : Int), .int .i64 1, .int .u64 (e : Int), .int .i64 8, .int .u64 (f : Int), .int .i64 23] 290)) hb1)
  clear hb1 A1
  go_wp2
  go_ret
  exact ⟨rfl, B1.out⟩

set_option maxRecDepth 100000 in
set_option maxHeartbeats 400000 in
theorem bits_64 (s e f : Nat) (w : World) (hs : s < 2) (he : e < 2048) (hf : f < 4503599627370496) :
    Calls Tryz.prog 201 #[fmV 11 52 64, .int .u64 (s : Int), .int .u64 (e : Int), .int .u64 (f : Int)] w fun o w' => o = .returned (.int .u64 (((s * 2048 + e) * 4503599627370496 + f : Nat) : Int)) ∧ Below w.heap.size w w' := by
  obtain ⟨J, hJ⟩ : ∃ J, J = (s * 2048 + e) * 4503599627370496 + f := ⟨_, rfl⟩
  rw [← hJ]
  have HJ := Lib.hid (fun C W c0 c1 c2 c3 c4 c5 => join_64 C s e f J W hs he hf hJ c0 c1 c2 c3 c4 c5)
  clear hJ hs he hf
  unfold fmV
  go_enter Tryz.func201, Tryz.ntmps201
  go_wp2_with fail
  have A1 := At.new1 w (.cells #[.int .i64 11, .int .i64 52, .int .i64 64] 227) #[.int .u64 (s : Int), .int .i64 1, .int .u64 (e : Int), .int .i64 11, .int .u64 (f : Int), .int .i64 52] 290
  refine (HJ.out _ _ (A1.c 0 rfl) (A1.c 1 rfl) (A1.c 2 rfl) (A1.c 3 rfl) (A1.c 4 rfl) (A1.c 5 rfl)).mono ?_
  rintro o w1 ⟨rfl, hb1⟩
  have B1 := Lib.hid (below_next (below_al (below_al (Below.refl _ w) (.cells #[.int .i64 11, .int .i64 52, .int .i64 64] 227)) (.cells #[.int .u64 (s : Int), .int .i64 1, .int .u64 (e : Int), .int .i64 11, .int .u64 (f : Int), .int .i64 52] 290)) hb1)
  clear hb1 A1
  go_wp2
  go_ret
  exact ⟨rfl, B1.out⟩

theorem bits_calls (k p wd : Nat) (L : Int) (s e f : Nat) (w : World) (hF : IsF k p wd L) (hs : s < 2) (he : e < 2 ^ k) (hf : f < 2 ^ p) :
    Calls Tryz.prog 201 #[fmV k p wd, .int .u64 (s : Int), .int .u64 (e : Int), .int .u64 (f : Int)] w fun o w' => o = .returned (.int .u64 ((jn (2 ^ k) p s e f : Nat) : Int)) ∧ Below w.heap.size w w' := by
  rcases hF with ⟨rfl, rfl, rfl, rfl⟩ | ⟨rfl, rfl, rfl, rfl⟩ | ⟨rfl, rfl, rfl, rfl⟩
  · rw [e10] at hf; exact bits_16 s e f w hs he hf
  · rw [e23] at hf; exact bits_32 s e f w hs he hf
  · rw [e52] at hf; exact bits_64 s e f w hs he hf
end Go.Proofs.YtppapkpceejnkaaGreatDoor

namespace Go.Proofs.YtppapkpceejnkaaGreatDoor
open Go.RowKit

set_option maxRecDepth 100000 in
set_option maxHeartbeats 400000 in
theorem resize_10_52 (f : Nat) (w : World) (hf : f < 1024) :
    Calls Tryz.prog 198 #[.int .u64 (f : Int), .int .i64 10, .int .i64 52] w fun o w' => o = .returned (.tuple #[.int .u64 ((f * 18014398509481984 / 4096 : Nat) : Int), .bool (decide (f * 18014398509481984 * 4503599627370496 % 18446744073709551616 = 0))]) ∧ Below w.heap.size w w' := by
  obtain ⟨u, hu⟩ : ∃ u, u = f * 18014398509481984 := ⟨_, rfl⟩
  have w1 : IntKind.u64.wrap ((f : Int) * 18014398509481984) = (u : Int) := by rw [IntKind.wrap_u64]; omega
  have w1' : (f : Int) * 18014398509481984 = (u : Int) := by omega
  have hu1 : u < 18446744073709551616 := by omega
  obtain ⟨v, hv⟩ : ∃ v, v = u * 4503599627370496 % 18446744073709551616 := ⟨_, rfl⟩
  have w2 : IntKind.u64.wrap ((u : Int) * 4503599627370496) = (v : Int) := by rw [IntKind.wrap_u64]; omega
  obtain ⟨q, hq⟩ : ∃ q, q = u / 4096 := ⟨_, rfl⟩
  have hq1 : (u : Int) / 4096 = (q : Int) := by omega
  rw [← hu, ← hv, ← hq]
  have hd : ((v : Int) == 0) = decide (v = 0) := by rw [Bool.eq_iff_iff]; simp
  obtain ⟨d, hd2⟩ : ∃ d, d = decide (v = 0) := ⟨_, rfl⟩
  rw [← hd2] at hd ⊢
  clear hu hv hq hd2
  go_enter Tryz.func198, Tryz.ntmps198
  go_wp2
  go_quiet (fail)
  go_wp2
  go_ret2
  exact ⟨rfl, below_drewN (Below.refl _ _) _⟩

set_option maxRecDepth 100000 in
set_option maxHeartbeats 400000 in
theorem resize_23_52 (f : Nat) (w : World) (hf : f < 8388608) :
    Calls Tryz.prog 198 #[.int .u64 (f : Int), .int .i64 23, .int .i64 52] w fun o w' => o = .returned (.tuple #[.int .u64 ((f * 2199023255552 / 4096 : Nat) : Int), .bool (decide (f * 2199023255552 * 4503599627370496 % 18446744073709551616 = 0))]) ∧ Below w.heap.size w w' := by
  obtain ⟨u, hu⟩ : ∃ u, u = f * 2199023255552 := ⟨_, rfl⟩
  have w1 : IntKind.u64.wrap ((f : Int) * 2199023255552) = (u : Int) := by rw [IntKind.wrap_u64]; omega
  have w1' : (f : Int) * 2199023255552 = (u : Int) := by omega
  have hu1 : u < 18446744073709551616 := by omega
  obtain ⟨v, hv⟩ : ∃ v, v = u * 4503599627370496 % 18446744073709551616 := ⟨_, rfl⟩
  have w2 : IntKind.u64.wrap ((u : Int) * 4503599627370496) = (v : Int) := by rw [IntKind.wrap_u64]; omega
  obtain ⟨q, hq⟩ : ∃ q, q = u / 4096 := ⟨_, rfl⟩
  have hq1 : (u : Int) / 4096 = (q : Int) := by omega
  rw [← hu, ← hv, ← hq]
  have hd : ((v : Int) == 0) = decide (v = 0) := by rw [Bool.eq_iff_iff]; simp
  obtain ⟨d, hd2⟩ : ∃ d, d = decide (v = 0) := ⟨_, rfl⟩
  rw [← hd2] at hd ⊢
  clear hu hv hq hd2
  go_enter Tryz.func198, Tryz.ntmps198
  go_wp2
  go_quiet (fail)
  go_wp2
  go_ret2
  exact ⟨rfl, below_drewN (Below.refl _ _) _⟩

set_option maxRecDepth 100000 in
set_option maxHeartbeats 400000 in
theorem resize_52_52 (f : Nat) (w : World) (hf : f < 4503599627370496) :
    Calls Tryz.prog 198 #[.int .u64 (f : Int), .int .i64 52, .int .i64 52] w fun o w' => o = .returned (.tuple #[.int .u64 ((f * 4096 / 4096 : Nat) : Int), .bool (decide (f * 4096 * 4503599627370496 % 18446744073709551616 = 0))]) ∧ Below w.heap.size w w' := by
  obtain ⟨u, hu⟩ : ∃ u, u = f * 4096 := ⟨_, rfl⟩
  have w1 : IntKind.u64.wrap ((f : Int) * 4096) = (u : Int) := by rw [IntKind.wrap_u64]; omega
  have w1' : (f : Int) * 4096 = (u : Int) := by omega
  have hu1 : u < 18446744073709551616 := by omega
  obtain ⟨v, hv⟩ : ∃ v, v = u * 4503599627370496 % 18446744073709551616 := ⟨_, rfl⟩
  have w2 : IntKind.u64.wrap ((u : Int) * 4503599627370496) = (v : Int) := by rw [IntKind.wrap_u64]; omega
  obtain ⟨q, hq⟩ : ∃ q, q = u / 4096 := ⟨_, rfl⟩
  have hq1 : (u : Int) / 4096 = (q : Int) := by omega
  rw [← hu, ← hv, ← hq]
  have hd : ((v : Int) == 0) = decide (v = 0) := by rw [Bool.eq_iff_iff]; simp
  obtain ⟨d, hd2⟩ : ∃ d, d = decide (v = 0) := ⟨_, rfl⟩
  rw [← hd2] at hd ⊢
  clear hu hv hq hd2
  go_enter Tryz.func198, Tryz.ntmps198
  go_wp2
  go_quiet (fail)
  go_wp2
  go_ret2
  exact ⟨rfl, below_drewN (Below.refl _ _) _⟩

set_option maxRecDepth 100000 in
set_option maxHeartbeats 400000 in
theorem resize_52_10 (f : Nat) (w : World) (hf : f < 4503599627370496) :
    Calls Tryz.prog 198 #[.int .u64 (f : Int), .int .i64 52, .int .i64 10] w fun o w' => o = .returned (.tuple #[.int .u64 ((f * 4096 / 18014398509481984 : Nat) : Int), .bool (decide (f * 4096 * 1024 % 18446744073709551616 = 0))]) ∧ Below w.heap.size w w' := by
  obtain ⟨u, hu⟩ : ∃ u, u = f * 4096 := ⟨_, rfl⟩
  have w1 : IntKind.u64.wrap ((f : Int) * 4096) = (u : Int) := by rw [IntKind.wrap_u64]; omega
  have w1' : (f : Int) * 4096 = (u : Int) := by omega
  have hu1 : u < 18446744073709551616 := by omega
  obtain ⟨v, hv⟩ : ∃ v, v = u * 1024 % 18446744073709551616 := ⟨_, rfl⟩
  have w2 : IntKind.u64.wrap ((u : Int) * 1024) = (v : Int) := by rw [IntKind.wrap_u64]; omega
  obtain ⟨q, hq⟩ : ∃ q, q = u / 18014398509481984 := ⟨_, rfl⟩
  have hq1 : (u : Int) / 18014398509481984 = (q : Int) := by omega
  rw [← hu, ← hv, ← hq]
  have hd : ((v : Int) == 0) = decide (v = 0) := by rw [Bool.eq_iff_iff]; simp
  obtain ⟨d, hd2⟩ : ∃ d, d = decide (v = 0) := ⟨_, rfl⟩
  rw [← hd2] at hd ⊢
  clear hu hv hq hd2
  go_enter Tryz.func198, Tryz.ntmps198
  go_wp2
  go_quiet (fail)
  go_wp2
  go_ret2
  exact ⟨rfl, below_drewN (Below.refl _ _) _⟩

set_option maxRecDepth 100000 in
set_option maxHeartbeats 400000 in
theorem resize_52_23 (f : Nat) (w : World) (hf : f < 4503599627370496) :
    Calls Tryz.prog 198 #[.int .u64 (f : Int), .int .i64 52, .int .i64 23] w fun o w' => o = .returned (.tuple #[.int .u64 ((f * 4096 / 2199023255552 : Nat) : Int), .bool (decide (f * 4096 * 8388608 % 18446744073709551616 = 0))]) ∧ Below w.heap.size w w' := by
  obtain ⟨u, hu⟩ : ∃ u, u = f * 4096 := ⟨_, rfl⟩
  have w1 : IntKind.u64.wrap ((f : Int) * 4096) = (u : Int) := by rw [IntKind.wrap_u64]; omega
  have w1' : (f : Int) * 4096 = (u : Int) := by omega
  have hu1 : u < 18446744073709551616 := by omega
  obtain ⟨v, hv⟩ : ∃ v, v = u * 8388608 % 18446744073709551616 := ⟨_, rfl⟩
  have w2 : IntKind.u64.wrap ((u : Int) * 8388608) = (v : Int) := by rw [IntKind.wrap_u64]; omega
  obtain ⟨q, hq⟩ : ∃ q, q = u / 2199023255552 := ⟨_, rfl⟩
  have hq1 : (u : Int) / 2199023255552 = (q : Int) := by omega
  rw [← hu, ← hv, ← hq]
  have hd : ((v : Int) == 0) = decide (v = 0) := by rw [Bool.eq_iff_iff]; simp
  obtain ⟨d, hd2⟩ : ∃ d, d = decide (v = 0) := ⟨_, rfl⟩
  rw [← hd2] at hd ⊢
  clear hu hv hq hd2
  go_enter Tryz.func198, Tryz.ntmps198
  go_wp2
  go_quiet (fail)
  go_wp2
  go_ret2
  exact ⟨rfl, below_drewN (Below.refl _ _) _⟩
end Go.Proofs.YtppapkpceejnkaaGreatDoor

namespace Go.Proofs.YtppapkpceejnkaaGreatDoor
open Go.RowKit

theorem hi_bounds {o p : Nat} (h0 : o ≠ 0) (hl : o.log2 + 1 ≤ p + 1) : 2 ^ p ≤ o * 2 ^ (p + 1 - (o.log2 + 1)) ∧ o * 2 ^ (p + 1 - (o.log2 + 1)) < 2 ^ (p + 1) := by
  have b1 : 2 ^ o.log2 ≤ o := Nat.log2_self_le h0
  have b2 : o < 2 ^ (o.log2 + 1) := Nat.lt_log2_self
  constructor
  · refine Nat.le_trans (Nat.le_of_eq ?_) (Nat.mul_le_mul_right _ b1)
    rw [← Nat.pow_add]
    congr 1
    omega
  · refine Nat.lt_of_lt_of_eq (Nat.mul_lt_mul_of_pos_right b2 (Nat.pow_pos (by decide))) ?_
    rw [← Nat.pow_add]
    congr 1
    omega
theorem lo_bounds {o p n : Nat} (h : o.log2 + 1 + n ≤ p) : o * 2 ^ n < 2 ^ p := by
  have b2 : o < 2 ^ (o.log2 + 1) := Nat.lt_log2_self
  refine Nat.lt_of_lt_of_le (Nat.mul_lt_mul_of_pos_right b2 (Nat.pow_pos (by decide))) ?_
  rw [← Nat.pow_add]
  exact Nat.pow_le_pow_right (by decide) h

theorem place_16 (o : Nat) (X : Int) (w : World) (ho : o < 18446744073709551616) (hX1 : -100000 ≤ X) (hX2 : X ≤ 100000) :
    Calls Tryz.prog 199 #[fmV 5 10 16, .agg #[.int .u64 (o : Int), .int .i64 X]] w fun r w' => r = .returned (plV (plc 31 10 (-24) (o, X))) ∧ Below w.heap.size w w' := by
  by_cases h0 : o = 0
  · subst h0
    rw [plc, if_pos rfl]
    exact place_zero_16 X w
  rw [plc, if_neg h0]
  simp only
  obtain ⟨len, hlen⟩ : ∃ len, o.log2 + 1 = len := ⟨_, rfl⟩
  have hl64 : len ≤ 64 := by
    have := (Nat.log2_lt h0).2 (show o < 2 ^ 64 by rw [e64]; exact ho)
    omega
  have hhi := hi_bounds (o := o) (p := 10) h0
  have hlo := fun n => lo_bounds (o := o) (p := 10) (n := n)
  simp only [hlen] at hhi hlo ⊢
  by_cases hS : X - (-24) < 0
  · rw [if_pos (.inl hS)]
    exact place_neg_16 o len X _ _ w h0 ho hlen hX1 hX2 rfl rfl hl64 hS
  by_cases hl : 10 + 1 < len
  · rw [if_pos (.inr (.inl hl))]
    exact place_long_16 o len X _ _ w h0 ho hlen hX1 hX2 rfl rfl hl64 (by omega) (by omega)
  by_cases hE : ((31 : Nat) : Int) ≤ X - (-24) + (len : Int) - (10 : Nat)
  · rw [if_pos (.inr (.inr hE))]
    exact place_far_16 o len X _ _ w h0 ho hlen hX1 hX2 rfl rfl hl64 (by omega) (by omega) (by omega)
  rw [if_neg (by omega)]
  by_cases hz : X - (-24) + (len : Int) - (10 : Nat) ≤ 0
  · rw [if_pos hz]
    obtain ⟨n, hn⟩ : ∃ n : Nat, X - (-24) = (n : Int) := ⟨(X - (-24)).toNat, by omega⟩
    rw [hn, Int.toNat_natCast]
    have hr := hlo n (by omega)
    exact place_low_16 o len X _ _ n _ w h0 ho hlen hX1 hX2 rfl rfl hl64 hn (by omega) (by omega) (by omega) rfl hr
  · rw [if_neg hz]
    obtain ⟨e, he⟩ : ∃ e : Nat, X - (-24) + (len : Int) - (10 : Nat) = (e : Int) := ⟨(X - (-24) + (len : Int) - (10 : Nat)).toNat, by omega⟩
    rw [he, Int.toNat_natCast]
    obtain ⟨q1, q2⟩ := hhi (by omega)
    obtain ⟨r, hr⟩ : ∃ r, r = o * 2 ^ (10 + 1 - len) := ⟨_, rfl⟩
    rw [← hr] at q1 q2 ⊢
    refine place_high_16 o len X _ _ e (10 + 1 - len) r (r - 2 ^ 10) w h0 ho hlen hX1 hX2 rfl rfl hl64 (by omega) (by omega) (by omega) (by omega) he rfl hr q2 ?_
    have e1 : (2 : Nat) ^ 10 = 1024 := by decide
    have e2 : (2 : Nat) ^ (10 + 1) = 2048 := by decide
    rw [e1] at q1 ⊢
    rw [e2] at q2
    omega

theorem place_32 (o : Nat) (X : Int) (w : World) (ho : o < 18446744073709551616) (hX1 : -100000 ≤ X) (hX2 : X ≤ 100000) :
    Calls Tryz.prog 199 #[fmV 8 23 32, .agg #[.int .u64 (o : Int), .int .i64 X]] w fun r w' => r = .returned (plV (plc 255 23 (-149) (o, X))) ∧ Below w.heap.size w w' := by
  by_cases h0 : o = 0
  · subst h0
    rw [plc, if_pos rfl]
    exact place_zero_32 X w
  rw [plc, if_neg h0]
  simp only
  obtain ⟨len, hlen⟩ : ∃ len, o.log2 + 1 = len := ⟨_, rfl⟩
  have hl64 : len ≤ 64 := by
    have := (Nat.log2_lt h0).2 (show o < 2 ^ 64 by rw [e64]; exact ho)
    omega
  have hhi := hi_bounds (o := o) (p := 23) h0
  have hlo := fun n => lo_bounds (o := o) (p := 23) (n := n)
  simp only [hlen] at hhi hlo ⊢
  by_cases hS : X - (-149) < 0
  · rw [if_pos (.inl hS)]
    exact place_neg_32 o len X _ _ w h0 ho hlen hX1 hX2 rfl rfl hl64 hS
  by_cases hl : 23 + 1 < len
  · rw [if_pos (.inr (.inl hl))]
    exact place_long_32 o len X _ _ w h0 ho hlen hX1 hX2 rfl rfl hl64 (by omega) (by omega)
  by_cases hE : ((255 : Nat) : Int) ≤ X - (-149) + (len : Int) - (23 : Nat)
  · rw [if_pos (.inr (.inr hE))]
    exact place_far_32 o len X _ _ w h0 ho hlen hX1 hX2 rfl rfl hl64 (by omega) (by omega) (by omega)
  rw [if_neg (by omega)]
  by_cases hz : X - (-149) + (len : Int) - (23 : Nat) ≤ 0
  · rw [if_pos hz]
    obtain ⟨n, hn⟩ : ∃ n : Nat, X - (-149) = (n : Int) := ⟨(X - (-149)).toNat, by omega⟩
    rw [hn, Int.toNat_natCast]
    have hr := hlo n (by omega)
    exact place_low_32 o len X _ _ n _ w h0 ho hlen hX1 hX2 rfl rfl hl64 hn (by omega) (by omega) (by omega) rfl hr
  · rw [if_neg hz]
    obtain ⟨e, he⟩ : ∃ e : Nat, X - (-149) + (len : Int) - (23 : Nat) = (e : Int) := ⟨(X - (-149) + (len : Int) - (23 : Nat)).toNat, by omega⟩
    rw [he, Int.toNat_natCast]
    obtain ⟨q1, q2⟩ := hhi (by omega)
    obtain ⟨r, hr⟩ : ∃ r, r = o * 2 ^ (23 + 1 - len) := ⟨_, rfl⟩
    rw [← hr] at q1 q2 ⊢
    refine place_high_32 o len X _ _ e (23 + 1 - len) r (r - 2 ^ 23) w h0 ho hlen hX1 hX2 rfl rfl hl64 (by omega) (by omega) (by omega) (by omega) he rfl hr q2 ?_
    have e1 : (2 : Nat) ^ 23 = 8388608 := by decide
    have e2 : (2 : Nat) ^ (23 + 1) = 16777216 := by decide
    rw [e1] at q1 ⊢
    rw [e2] at q2
    omega

theorem place_64 (o : Nat) (X : Int) (w : World) (ho : o < 18446744073709551616) (hX1 : -100000 ≤ X) (hX2 : X ≤ 100000) :
    Calls Tryz.prog 199 #[fmV 11 52 64, .agg #[.int .u64 (o : Int), .int .i64 X]] w fun r w' => r = .returned (plV (plc 2047 52 (-1074) (o, X))) ∧ Below w.heap.size w w' := by
  by_cases h0 : o = 0
  · subst h0
    rw [plc, if_pos rfl]
    exact place_zero_64 X w
  rw [plc, if_neg h0]
  simp only
  obtain ⟨len, hlen⟩ : ∃ len, o.log2 + 1 = len := ⟨_, rfl⟩
  have hl64 : len ≤ 64 := by
    have := (Nat.log2_lt h0).2 (show o < 2 ^ 64 by rw [e64]; exact ho)
    omega
  have hhi := hi_bounds (o := o) (p := 52) h0
  have hlo := fun n => lo_bounds (o := o) (p := 52) (n := n)
  simp only [hlen] at hhi hlo ⊢
  by_cases hS : X - (-1074) < 0
  · rw [if_pos (.inl hS)]
    exact place_neg_64 o len X _ _ w h0 ho hlen hX1 hX2 rfl rfl hl64 hS
  by_cases hl : 52 + 1 < len
  · rw [if_pos (.inr (.inl hl))]
    exact place_long_64 o len X _ _ w h0 ho hlen hX1 hX2 rfl rfl hl64 (by omega) (by omega)
  by_cases hE : ((2047 : Nat) : Int) ≤ X - (-1074) + (len : Int) - (52 : Nat)
  · rw [if_pos (.inr (.inr hE))]
    exact place_far_64 o len X _ _ w h0 ho hlen hX1 hX2 rfl rfl hl64 (by omega) (by omega) (by omega)
  rw [if_neg (by omega)]
  by_cases hz : X - (-1074) + (len : Int) - (52 : Nat) ≤ 0
  · rw [if_pos hz]
    obtain ⟨n, hn⟩ : ∃ n : Nat, X - (-1074) = (n : Int) := ⟨(X - (-1074)).toNat, by omega⟩
    rw [hn, Int.toNat_natCast]
    have hr := hlo n (by omega)
    exact place_low_64 o len X _ _ n _ w h0 ho hlen hX1 hX2 rfl rfl hl64 hn (by omega) (by omega) (by omega) rfl hr
  · rw [if_neg hz]
    obtain ⟨e, he⟩ : ∃ e : Nat, X - (-1074) + (len : Int) - (52 : Nat) = (e : Int) := ⟨(X - (-1074) + (len : Int) - (52 : Nat)).toNat, by omega⟩
    rw [he, Int.toNat_natCast]
    obtain ⟨q1, q2⟩ := hhi (by omega)
    obtain ⟨r, hr⟩ : ∃ r, r = o * 2 ^ (52 + 1 - len) := ⟨_, rfl⟩
    rw [← hr] at q1 q2 ⊢
    refine place_high_64 o len X _ _ e (52 + 1 - len) r (r - 2 ^ 52) w h0 ho hlen hX1 hX2 rfl rfl hl64 (by omega) (by omega) (by omega) (by omega) he rfl hr q2 ?_
    have e1 : (2 : Nat) ^ 52 = 4503599627370496 := by decide
    have e2 : (2 : Nat) ^ (52 + 1) = 9007199254740992 := by decide
    rw [e1] at q1 ⊢
    rw [e2] at q2
    omega

theorem place_calls (k p wd : Nat) (L : Int) (v : Nat × Int) (w : World) (hF : IsF k p wd L) (h64 : v.1 < 18446744073709551616) (hX1 : -100000 ≤ v.2) (hX2 : v.2 ≤ 100000) :
    Calls Tryz.prog 199 #[fmV k p wd, vlV v] w fun r w' => r = .returned (plV (plc (2 ^ k - 1) p L v)) ∧ Below w.heap.size w w' := by
  rcases hF with ⟨rfl, rfl, rfl, rfl⟩ | ⟨rfl, rfl, rfl, rfl⟩ | ⟨rfl, rfl, rfl, rfl⟩
  · exact place_16 v.1 v.2 w h64 hX1 hX2
  · exact place_32 v.1 v.2 w h64 hX1 hX2
  · exact place_64 v.1 v.2 w h64 hX1 hX2
end Go.Proofs.YtppapkpceejnkaaGreatDoor

namespace Go.Proofs.YtppapkpceejnkaaGreatDoor
open Go.RowKit

/-- What is told of bits that are turned. -/
def trV : Option Nat → Value
  | some c => .tuple #[.int .u64 (c : Int), .bool true]
  | none => .tuple #[.int .u64 0, .bool false]

set_option maxRecDepth 100000 in
set_option maxHeartbeats 400000 in
theorem turn_inf (k p wd k' p' wd' : Int) (b s e f g K' c : Nat) (d : Bool) (w : World)
    (hS : ∀ W, Calls Tryz.prog 196 #[.agg #[.int .i64 k, .int .i64 p, .int .i64 wd], .int .u64 (b : Int)] W fun o w' => o = .returned (.tuple #[.int .u64 (s : Int), .int .u64 (e : Int), .int .u64 (f : Int)]) ∧ Below W.heap.size W w')
    (hFu : ∀ W, Calls Tryz.prog 197 #[.agg #[.int .i64 k, .int .i64 p]] W fun o w' => o = .returned (.int .u64 (e : Int)) ∧ Below W.heap.size W w')
    (hFt : ∀ W, Calls Tryz.prog 197 #[.agg #[.int .i64 k', .int .i64 p']] W fun o w' => o = .returned (.int .u64 (K' : Int)) ∧ Below W.heap.size W w')
    (hR : ∀ W, Calls Tryz.prog 198 #[.int .u64 (f : Int), .int .i64 p, .int .i64 p'] W fun o w' => o = .returned (.tuple #[.int .u64 (g : Int), .bool d]) ∧ Below W.heap.size W w')
    (hB : ∀ W, d = true → Calls Tryz.prog 201 #[.agg #[.int .i64 k', .int .i64 p', .int .i64 wd'], .int .u64 (s : Int), .int .u64 (K' : Int), .int .u64 (g : Int)] W fun o w' => o = .returned (.int .u64 (c : Int)) ∧ Below W.heap.size W w') :
    Calls Tryz.prog 166 #[.int .u64 (b : Int), .agg #[.int .i64 k, .int .i64 p, .int .i64 wd], .agg #[.int .i64 k', .int .i64 p', .int .i64 wd']] w fun o w' => o = .returned (trV (if d = true then some c else none)) ∧ Below w.heap.size w w' := by
  have HS := Lib.hid hS
  have HFu := Lib.hid hFu
  have HFt := Lib.hid hFt
  have HR := Lib.hid hR
  have HB := Lib.hid hB
  clear hS hFu hFt hR hB
  have he : ((e : Int) == (e : Int)) = true := by simp
  have F0 := Lib.hid ((At.new w #[.int .i64 k, .int .i64 p, .int .i64 wd] 227).alloc (.cells #[.int .i64 k', .int .i64 p', .int .i64 wd'] 227))
  have G0 := Lib.hid (At.new1 w (.cells #[.int .i64 k, .int .i64 p, .int .i64 wd] 227) #[.int .i64 k', .int .i64 p', .int .i64 wd'] 227)
  have B0 := Lib.hid (below_al (below_al (Below.refl _ w) (.cells #[.int .i64 k, .int .i64 p, .int .i64 wd] 227)) (.cells #[.int .i64 k', .int .i64 p', .int .i64 wd'] 227))
  go_enter Tryz.func166, Tryz.ntmps166
  go_wp2_with fail
  refine (HS.out _).mono ?_
  rintro o w1 ⟨rfl, hb1⟩
  have F1 := Lib.hid (F0.out.below hb1)
  have G1 := Lib.hid (G0.out.below hb1)
  have B1 := Lib.hid (below_next B0.out hb1)
  clear hb1 F0 G0 B0
  have p0 := F1.out.c 0 rfl
  have p1 := F1.out.c 1 rfl
  go_wp2_with fail
  refine (HFu.out _).mono ?_
  rintro o w2 ⟨rfl, hb2⟩
  have F2 := Lib.hid (F1.out.below hb2)
  have G2 := Lib.hid (G1.out.below hb2)
  have B2 := Lib.hid (below_next B1.out hb2)
  clear hb2 F1 G1 B1 p0 p1
  have p0 := G2.out.c 0 rfl
  have p1 := G2.out.c 1 rfl
  go_wp2_with fail
  refine (HFt.out _).mono ?_
  rintro o w3 ⟨rfl, hb3⟩
  have F3 := Lib.hid (F2.out.below hb3)
  have G3 := Lib.hid (G2.out.below hb3)
  have B3 := Lib.hid (below_next B2.out hb3)
  clear hb3 F2 G2 B2 p0 p1
  have p1 := F3.out.c 1 rfl
  have q1 := G3.out.c 1 rfl
  go_wp2_with fail
  refine (HR.out _).mono ?_
  rintro o w4 ⟨rfl, hb4⟩
  have G4 := Lib.hid (G3.out.below hb4)
  have B4 := Lib.hid (below_next B3.out hb4)
  clear hb4 F3 G3 B3 p1 q1
  have q0 := G4.out.c 0 rfl
  have q1 := G4.out.c 1 rfl
  have q2 := G4.out.c 2 rfl
  cases d
  · go_wp2
    go_ret2
    exact ⟨rfl, B4.out⟩
  · go_wp2_with fail
    refine (HB.out _ (by trivial)).mono ?_
    rintro o w5 ⟨rfl, hb5⟩
    have B5 := Lib.hid (below_next B4.out hb5)
    clear hb5
    go_wp2
    go_ret2
    exact ⟨rfl, B5.out⟩

set_option maxRecDepth 100000 in
set_option maxHeartbeats 400000 in
theorem turn_fin (k p wd k' p' wd' : Int) (b s e f K c : Nat) (V : Nat × Int) (R : Option (Nat × Nat)) (w : World) (hT : BruT w) (hne : e ≠ K)
    (hS : ∀ W, Calls Tryz.prog 196 #[.agg #[.int .i64 k, .int .i64 p, .int .i64 wd], .int .u64 (b : Int)] W fun o w' => o = .returned (.tuple #[.int .u64 (s : Int), .int .u64 (e : Int), .int .u64 (f : Int)]) ∧ Below W.heap.size W w')
    (hFu : ∀ W, Calls Tryz.prog 197 #[.agg #[.int .i64 k, .int .i64 p]] W fun o w' => o = .returned (.int .u64 (K : Int)) ∧ Below W.heap.size W w')
    (hV : ∀ W, BruT W → Calls Tryz.prog 200 #[.agg #[.int .i64 k, .int .i64 p, .int .i64 wd], .int .u64 (e : Int), .int .u64 (f : Int)] W fun o w' => o = .returned (vlV V) ∧ Below W.heap.size W w')
    (hP : ∀ W, Calls Tryz.prog 199 #[.agg #[.int .i64 k', .int .i64 p', .int .i64 wd'], vlV V] W fun o w' => o = .returned (plV R) ∧ Below W.heap.size W w')
    (hB : ∀ W x, R = some x → Calls Tryz.prog 201 #[.agg #[.int .i64 k', .int .i64 p', .int .i64 wd'], .int .u64 (s : Int), .int .u64 (x.1 : Int), .int .u64 (x.2 : Int)] W fun o w' => o = .returned (.int .u64 (c : Int)) ∧ Below W.heap.size W w') :
    Calls Tryz.prog 166 #[.int .u64 (b : Int), .agg #[.int .i64 k, .int .i64 p, .int .i64 wd], .agg #[.int .i64 k', .int .i64 p', .int .i64 wd']] w fun o w' => o = .returned (trV (R.map fun _ => c)) ∧ Below w.heap.size w w' := by
  have HS := Lib.hid hS
  have HFu := Lib.hid hFu
  have HV := Lib.hid hV
  have HP := Lib.hid hP
  have HB := Lib.hid hB
  have HT := Lib.hid hT
  have he : ((e : Int) == (K : Int)) = false := by simp; omega
  clear hS hFu hV hP hB hT hne
  have F0 := Lib.hid ((At.new w #[.int .i64 k, .int .i64 p, .int .i64 wd] 227).alloc (.cells #[.int .i64 k', .int .i64 p', .int .i64 wd'] 227))
  have G0 := Lib.hid (At.new1 w (.cells #[.int .i64 k, .int .i64 p, .int .i64 wd] 227) #[.int .i64 k', .int .i64 p', .int .i64 wd'] 227)
  have B0 := Lib.hid (below_al (below_al (Below.refl _ w) (.cells #[.int .i64 k, .int .i64 p, .int .i64 wd] 227)) (.cells #[.int .i64 k', .int .i64 p', .int .i64 wd'] 227))
  rcases R with _ | x
  all_goals
    simp only [plV] at HP
    go_enter Tryz.func166, Tryz.ntmps166
    go_wp2_with fail
    refine (HS.out _).mono ?_
    rintro o w1 ⟨rfl, hb1⟩
    have F1 := Lib.hid (F0.out.below hb1)
    have G1 := Lib.hid (G0.out.below hb1)
    have B1 := Lib.hid (below_next B0.out hb1)
    clear hb1 F0 G0 B0
    have p0 := F1.out.c 0 rfl
    have p1 := F1.out.c 1 rfl
    go_wp2_with fail
    refine (HFu.out _).mono ?_
    rintro o w2 ⟨rfl, hb2⟩
    have F2 := Lib.hid (F1.out.below hb2)
    have G2 := Lib.hid (G1.out.below hb2)
    have B2 := Lib.hid (below_next B1.out hb2)
    clear hb2 F1 G1 B1 p0 p1
    go_wp2_with fail
    have F2d := Lib.hid (show At w2.drew _ _ _ from F2.out)
    have G2d := Lib.hid (show At w2.drew _ _ _ from G2.out)
    have B2d := Lib.hid B2.out.drew
    clear F2 G2 B2
    go_region_held3 (fun w' => (w'.cell? ⟨w.heap.size, 0, none⟩ = some (.int .i64 k) ∧ w'.cell? ⟨w.heap.size, 1, none⟩ = some (.int .i64 p) ∧ w'.cell? ⟨w.heap.size, 2, none⟩ = some (.int .i64 wd)) ∧ w'.cell? ⟨w.heap.size + 1, 0, none⟩ = some (.int .i64 k') ∧ w'.cell? ⟨w.heap.size + 1, 1, none⟩ = some (.int .i64 p') ∧ w'.cell? ⟨w.heap.size + 1, 2, none⟩ = some (.int .i64 wd'))
      (first
        | exact ⟨⟨F2d.out.c 0 rfl, F2d.out.c 1 rfl, F2d.out.c 2 rfl⟩, G2d.out.c 0 rfl, G2d.out.c 1 rfl, G2d.out.c 2 rfl⟩
        | exact ⟨⟨F3.out.c 0 rfl, F3.out.c 1 rfl, F3.out.c 2 rfl⟩, G3.out.c 0 rfl, G3.out.c 1 rfl, G3.out.c 2 rfl⟩
        | exact ⟨⟨F4.out.c 0 rfl, F4.out.c 1 rfl, F4.out.c 2 rfl⟩, G4.out.c 0 rfl, G4.out.c 1 rfl, G4.out.c 2 rfl⟩)
      ((first
        | (go_at_call 200; refine (HV.out _ (HT.out.below B2d.out)).mono ?_; rintro o w3 ⟨rfl, hb3⟩; have F3 := Lib.hid (F2d.out.below hb3); have G3 := Lib.hid (G2d.out.below hb3); have B3 := Lib.hid (below_next B2d.out hb3); clear hb3)
        | (go_at_call 199; refine (HP.out _).mono ?_; rintro o w4 ⟨rfl, hb4⟩; have F4 := Lib.hid (F3.out.below hb4); have G4 := Lib.hid (G3.out.below hb4); have B4 := Lib.hid (below_next B3.out hb4); clear hb4)))
    all_goals
      have q0 := G4.out.c 0 rfl
      have q1 := G4.out.c 1 rfl
      have q2 := G4.out.c 2 rfl
      first
        | (go_wp2
           go_ret2
           exact ⟨rfl, B4.out⟩)
        | (go_wp2_with fail
           refine (HB.out _ _ rfl).mono ?_
           rintro o w5 ⟨rfl, hb5⟩
           have B5 := Lib.hid (below_next B4.out hb5)
           clear hb5
           go_wp2
           go_ret2
           exact ⟨rfl, B5.out⟩)
end Go.Proofs.YtppapkpceejnkaaGreatDoor

namespace Go.Proofs.YtppapkpceejnkaaGreatDoor
open Go.RowKit

theorem resize_calls (p q f : Nat) (w : World) (hf : f < 2 ^ p) (hpq : (p = 10 ∧ q = 52) ∨ (p = 23 ∧ q = 52) ∨ (p = 52 ∧ q = 52) ∨ (p = 52 ∧ q = 10) ∨ (p = 52 ∧ q = 23)) :
    Calls Tryz.prog 198 #[.int .u64 (f : Int), .int .i64 (p : Int), .int .i64 (q : Int)] w fun o w' => o = .returned (.tuple #[.int .u64 ((f * 2 ^ (64 - p) / 2 ^ (64 - q) : Nat) : Int), .bool (decide (f * 2 ^ (64 - p) * 2 ^ q % 2 ^ 64 = 0))]) ∧ Below w.heap.size w w' := by
  rcases hpq with ⟨rfl, rfl⟩ | ⟨rfl, rfl⟩ | ⟨rfl, rfl⟩ | ⟨rfl, rfl⟩ | ⟨rfl, rfl⟩
  · rw [e10] at hf; rw [e54, e12, e52, e64]; exact resize_10_52 f w hf
  · rw [e23] at hf; rw [e41, e12, e52, e64]; exact resize_23_52 f w hf
  · rw [e52] at hf; rw [e12, e52, e64]; exact resize_52_52 f w hf
  · rw [e52] at hf; rw [e54, e12, e10, e64]; exact resize_52_10 f w hf
  · rw [e52] at hf; rw [e41, e12, e23, e64]; exact resize_52_23 f w hf

theorem valN_bounds {m : Nat} {x : Int} (h : m < 2 ^ 64) (h1 : -4000 ≤ x) (h2 : x ≤ 4000) : (valN m x).1 < 18446744073709551616 ∧ -100000 ≤ (valN m x).2 ∧ (valN m x).2 ≤ 100000 := by
  by_cases h0 : m = 0
  · subst h0; rw [valN_zero]; exact ⟨by decide, by decide, by decide⟩
  · obtain ⟨o, t, hm, ho, _, ht, hv, _⟩ := val_parts h0 h x
    rw [hv]
    refine ⟨?_, by show -100000 ≤ x + t; omega, by show x + t ≤ 100000; omega⟩
    rw [← e64]
    refine Nat.lt_of_le_of_lt ?_ h
    rw [hm]; exact Nat.le_mul_of_pos_right _ (Nat.pow_pos (by decide))
theorem valP_bounds {k p wd : Nat} {L : Int} {e f : Nat} (hF : IsF k p wd L) (he : e < 2048) (hf : f < 2 ^ p) : (valP p L e f).1 < 18446744073709551616 ∧ -100000 ≤ (valP p L e f).2 ∧ (valP p L e f).2 ≤ 100000 := by
  have hp : p ≤ 60 ∧ -2000 ≤ L - 1 ∧ L ≤ -24 := by rcases hF with ⟨_, rfl, _, rfl⟩ | ⟨_, rfl, _, rfl⟩ | ⟨_, rfl, _, rfl⟩ <;> decide
  have h1 : 2 ^ p ≤ 2 ^ 60 := Nat.pow_le_pow_right (by decide) hp.1
  have h2 : (2 : Nat) ^ 60 = 1152921504606846976 := by decide
  rw [valP]
  split
  · exact valN_bounds (by rw [e64]; omega) (by omega) (by omega)
  · exact valN_bounds (by rw [e64]; omega) (by omega) (by omega)

theorem turn_calls (k p wd k' p' wd' : Nat) (L L' : Int) (b : Nat) (w : World) (hF : IsF k p wd L) (hG : IsF k' p' wd' L') (h52 : p = 52 ∨ p' = 52) (hb : b < 18446744073709551616) (hs : b / 2 ^ p / 2 ^ k < 2) (hT : BruT w) :
    Calls Tryz.prog 166 #[.int .u64 (b : Int), fmV k p wd, fmV k' p' wd'] w fun o w' => o = .returned (trV (trn (2 ^ k) p L (2 ^ k') p' L' b)) ∧ Below w.heap.size w w' := by
  have hfp : b % 2 ^ p < 2 ^ p := Nat.mod_lt _ (Nat.pow_pos (by decide))
  have hk : k = 5 ∨ k = 8 ∨ k = 11 := by rcases hF with ⟨h, _⟩ | ⟨h, _⟩ | ⟨h, _⟩ <;> simp [h]
  have hk' : k' = 5 ∨ k' = 8 ∨ k' = 11 := by rcases hG with ⟨h, _⟩ | ⟨h, _⟩ | ⟨h, _⟩ <;> simp [h]
  have hp : p ≤ 60 := by rcases hF with ⟨_, h, _⟩ | ⟨_, h, _⟩ | ⟨_, h, _⟩ <;> omega
  have hp' : p' ≤ 60 := by rcases hG with ⟨_, h, _⟩ | ⟨_, h, _⟩ | ⟨_, h, _⟩ <;> omega
  have hpq : (p = 10 ∧ p' = 52) ∨ (p = 23 ∧ p' = 52) ∨ (p = 52 ∧ p' = 52) ∨ (p = 52 ∧ p' = 10) ∨ (p = 52 ∧ p' = 23) := by
    rcases hF with ⟨_, h, _⟩ | ⟨_, h, _⟩ | ⟨_, h, _⟩ <;> rcases hG with ⟨_, h', _⟩ | ⟨_, h', _⟩ | ⟨_, h', _⟩ <;> omega
  have hK2 : 2 ≤ 2 ^ k' := by rcases hk' with rfl | rfl | rfl <;> decide
  have hkk : 2 ^ k ≤ 2048 := by rcases hk with rfl | rfl | rfl <;> decide
  have he : b / 2 ^ p % 2 ^ k < 2 ^ k := Nat.mod_lt _ (Nat.pow_pos (by decide))
  obtain ⟨c, hc⟩ : ∃ c, trn (2 ^ k) p L (2 ^ k') p' L' b = c := ⟨_, rfl⟩
  rw [hc]
  rw [trn] at hc
  by_cases hx : b / 2 ^ p % 2 ^ k = 2 ^ k - 1
  · rw [if_pos hx] at hc
    have h64p : 2 ^ (64 - p) * 2 ^ p = 2 ^ 64 := by rw [← Nat.pow_add]; congr 1; omega
    have h64q : 2 ^ (64 - p') * 2 ^ p' = 2 ^ 64 := by rw [← Nat.pow_add]; congr 1; omega
    have hg : b % 2 ^ p * 2 ^ (64 - p) / 2 ^ (64 - p') < 2 ^ p' := by
      rw [Nat.div_lt_iff_lt_mul (Nat.pow_pos (by decide)), Nat.mul_comm (2 ^ p'), h64q, ← h64p, Nat.mul_comm (2 ^ (64 - p))]
      exact Nat.mul_lt_mul_of_pos_right hfp (Nat.pow_pos (by decide))
    have key := turn_inf k p wd k' p' wd' b (b / 2 ^ p / 2 ^ k) (b / 2 ^ p % 2 ^ k) (b % 2 ^ p) (b % 2 ^ p * 2 ^ (64 - p) / 2 ^ (64 - p')) (2 ^ k' - 1) (jn (2 ^ k') p' (b / 2 ^ p / 2 ^ k) (2 ^ k' - 1) (b % 2 ^ p * 2 ^ (64 - p) / 2 ^ (64 - p')))
      (decide (b % 2 ^ p * 2 ^ (64 - p) * 2 ^ p' % 2 ^ 64 = 0)) w
      (fun W => split_calls k p wd L b W hF hb) (fun W => by rw [hx]; exact full_calls k p W hk) (fun W => full_calls k' p' W hk') (fun W => resize_calls p p' _ W hfp hpq)
      (fun W _ => bits_calls k' p' wd' L' _ _ _ W hG hs (by omega) hg)
    rw [← hc]
    refine key.mono ?_
    rintro o w' ⟨rfl, hw⟩
    refine ⟨?_, hw⟩
    simp only [decide_eq_true_eq]
  · rw [if_neg hx] at hc
    obtain ⟨v1, v2, v3⟩ := valP_bounds hF (e := b / 2 ^ p % 2 ^ k) (by omega) hfp
    cases hpl : plc (2 ^ k' - 1) p' L' (valP p L (b / 2 ^ p % 2 ^ k) (b % 2 ^ p)) with
    | none =>
      rw [hpl] at hc
      have key := turn_fin k p wd k' p' wd' b (b / 2 ^ p / 2 ^ k) (b / 2 ^ p % 2 ^ k) (b % 2 ^ p) (2 ^ k - 1) 0 (valP p L (b / 2 ^ p % 2 ^ k) (b % 2 ^ p)) none w hT hx
        (fun W => split_calls k p wd L b W hF hb) (fun W => full_calls k p W hk) (fun W h => value_calls k p wd L _ _ W hF (by omega) hfp h) (fun W => by have := place_calls k' p' wd' L' _ W hG v1 v2 v3; rw [hpl] at this; exact this) (fun W x h => by cases h)
      rw [← hc]; exact key
    | some x =>
      rw [hpl] at hc
      obtain ⟨g1, g2, _⟩ := plc_val (e := x.1) (f := x.2) hp' (by omega) (valP_ok hp hfp) hpl
      have key := turn_fin k p wd k' p' wd' b (b / 2 ^ p / 2 ^ k) (b / 2 ^ p % 2 ^ k) (b % 2 ^ p) (2 ^ k - 1) (jn (2 ^ k') p' (b / 2 ^ p / 2 ^ k) x.1 x.2) (valP p L (b / 2 ^ p % 2 ^ k) (b % 2 ^ p)) (some x) w hT hx
        (fun W => split_calls k p wd L b W hF hb) (fun W => full_calls k p W hk) (fun W h => value_calls k p wd L _ _ W hF (by omega) hfp h) (fun W => by have := place_calls k' p' wd' L' _ W hG v1 v2 v3; rw [hpl] at this; exact this)
        (fun W y h => by cases h; exact bits_calls k' p' wd' L' _ _ _ W hG hs (by omega) g2)
      rw [← hc]; exact key
end Go.Proofs.YtppapkpceejnkaaGreatDoor
