/- The program's own: split. -/
import Derived.Test.YtgaaiiacdeejfaaDoorQ4
namespace Go.Proofs.YtgaaiiacdeejfaaDoor
open Go.RowKit

/-- A new row of bytes, none of them set. -/
def rowH (n : Nat) : Obj := .cells (madeCells #[.int .u8 0] n) 5
theorem run_make_h (W : World) (n : Nat) (hn : n ≤ 100) : (Instr.makeSlice 38 (.int .i64 (n : Int)) (.int .i64 (n : Int))).run Tryd.prog W = .ok (.slice (some ⟨W.heap.size, 0, none⟩) n n) (W.alloc (rowH n)) := by
  obtain ⟨i0, hi, hz0, hz1, hz2⟩ := info_parts info5
  have h := run_make (P := Tryd.prog) W 38 5 i0 (.int .u8 0) Tryd.underlying38 hi hz0 .i64 .i64 (n : Int) (n : Int) (by omega) (by omega) (by rw [hz2]; omega) (by omega)
  rw [h, hz1, Int.toNat_natCast, Nat.mul_one, rowH]
  rfl
/-- The row behind k rounds. -/
def rowK (n a k : Nat) : Array Value := (((bigL n a).map encB).take k ++ (List.replicate (n - k) (Value.int .u8 0))).toArray
theorem bigL_get : ∀ (n a k : Nat), k < n → (bigL n a)[k]? = some (UInt8.ofNat (a / 256 ^ (n - 1 - k)))
  | 0, _, _, h => by omega
  | n + 1, a, 0, _ => by rw [bigL]; rfl
  | n + 1, a, k + 1, h => by
    rw [bigL, List.getElem?_cons_succ, bigL_get n a k (by omega)]
    congr 4; omega
theorem take_set {l : List Value} {n k : Nat} {x z : Value} (hl : l.length = n) (hk : k < n) (hx : l[k]? = some x) : (l.take k ++ List.replicate (n - k) z).set k x = l.take (k + 1) ++ List.replicate (n - (k + 1)) z := by
  have h1 : (l.take k).length = k := by rw [List.length_take]; omega
  have h2 : n - k = (n - (k + 1)) + 1 := by omega
  have h3 : k < l.length := by omega
  rw [List.getElem?_eq_getElem h3] at hx
  rw [List.set_append_right _ _ (by omega), h1, Nat.sub_self, h2, List.replicate_succ, List.set_cons_zero, List.take_succ_eq_append_getElem h3, Option.some.inj hx, List.append_assoc]
  rfl
theorem rowK_set (n a k : Nat) (hk : k < n) {x : Int} (hx : x = ((a / 256 ^ (n - 1 - k) % 256 : Nat) : Int)) : (rowK n a k).setIfInBounds k (.int .u8 x) = rowK n a (k + 1) := by
  subst hx
  rw [rowK, rowK, List.setIfInBounds_toArray, take_set (x := .int .u8 ((a / 256 ^ (n - 1 - k) % 256 : Nat) : Int)) (by rw [List.length_map, bigL_len]) hk]
  rw [List.getElem?_map, bigL_get n a k hk, Option.map_some, encB, UInt8.toNat_ofNat']
theorem rowK_end (n a : Nat) : rowK n a n = ((bigL n a).map encB).toArray := by
  rw [rowK, Nat.sub_self, List.replicate_zero, List.append_nil, List.take_of_length_le (by rw [List.length_map, bigL_len]; exact Nat.le_refl _)]
theorem rowK_at (n a k : Nat) (hk : k < n) : (rowK n a k)[k]? = some (.int .u8 0) := by
  rw [rowK, List.getElem?_toArray, List.getElem?_append_right (by rw [List.length_take]; exact Nat.min_le_left _ _), List.length_take, List.length_map, bigL_len, Nat.min_eq_left (by omega), Nat.sub_self, List.getElem?_replicate, if_pos (by omega)]
theorem at_setK {W : World} {B n a k : Nat} {x : Int} (h : At W B (rowK n a k) 5) (hk : k < n) (hx : x = ((a / 256 ^ (n - 1 - k) % 256 : Nat) : Int)) : At (W.setCell ⟨B, k, none⟩ (.int .u8 x)) B (rowK n a (k + 1)) 5 := by
  rw [← rowK_set n a k hk hx]
  exact heap_setCell_same W B k _ _ _ h
theorem rowH_K (n a : Nat) : rowH n = .cells (rowK n a 0) 5 := by
  have h : madeCells #[Value.int .u8 0] n = rowK n a 0 := by
    apply Array.ext
    · simp [size_madeCells, rowK]
    · intro i h1 h2
      simp [madeCells, rowK, Nat.mod_one]
  rw [rowH, h]
/-- What split answers. -/
def SplitPost (n a : Nat) (w : World) (o : Ending) (w' : World) : Prop := ∃ g, w.heap.size ≤ g ∧ o = .returned (.slice (some ⟨g, 0, none⟩) n n) ∧ At w' g ((bigL n a).map encB).toArray 5 ∧ Below w.heap.size w w'
set_option maxRecDepth 100000 in
set_option maxHeartbeats 1000000 in
theorem split0 (i : Int) (a : Nat) (w : World) : Calls Tryd.prog 22 #[.agg #[.int .i64 i, .int .i64 0], .int .u64 (a : Int)] w (SplitPost 0 a w) := by
  have hmk : ∀ W : World, (Instr.makeSlice 38 (.int .i64 0) (.int .i64 0)).run Tryd.prog W = .ok (.slice (some ⟨W.heap.size, 0, none⟩) 0 0) (W.alloc (.cells (rowK 0 a 0) 5)) := fun W => by
    rw [← rowH_K 0 a]; exact run_make_h W 0 (by omega)
  go_enter Tryd.func22, Tryd.ntmps22
  go_wp2
  clear hmk
  go_loopw [12] (fun i2 wr => ∃ k : Nat, i2 = .int .i64 k ∧ k ≤ 0 ∧ At wr w.heap.size #[.int .i64 i, .int .i64 0] 41 ∧ At wr (w.heap.size + 1) (rowK 0 a k) 5 ∧ Below w.heap.size w wr) (fun i2 _ => 0 - (intOf i2).toNat)
  case atStart => exact ⟨0, rfl, by omega, (At.new w _ _).alloc _, At.new1 w _ _ _, below_al (below_al (Below.refl _ _) _) _⟩
  case round =>
    obtain ⟨k, rfl, hk, ha, hr, hb⟩ := hrel
    have c1 := ha.c 1 rfl
    have HA := Lib.hid ha
    have HR := Lib.hid hr
    have HB := Lib.hid hb
    have HZ := Lib.hid hr.lt
    clear ha hr hb
    have hcs : k = 0 := by omega
    rcases hcs with rfl
    · go_wp2
      go_ret
      exact ⟨_, by omega, rfl, by rw [← rowK_end]; exact HR.out, HB.out⟩
set_option maxRecDepth 100000 in
set_option maxHeartbeats 1000000 in
theorem split1 (i : Int) (a : Nat) (w : World) : Calls Tryd.prog 22 #[.agg #[.int .i64 i, .int .i64 1], .int .u64 (a : Int)] w (SplitPost 1 a w) := by
  have hmk : ∀ W : World, (Instr.makeSlice 38 (.int .i64 1) (.int .i64 1)).run Tryd.prog W = .ok (.slice (some ⟨W.heap.size, 0, none⟩) 1 1) (W.alloc (.cells (rowK 1 a 0) 5)) := fun W => by
    rw [← rowH_K 1 a]; exact run_make_h W 1 (by omega)
  go_enter Tryd.func22, Tryd.ntmps22
  go_wp2
  clear hmk
  go_loopw [12] (fun i2 wr => ∃ k : Nat, i2 = .int .i64 k ∧ k ≤ 1 ∧ At wr w.heap.size #[.int .i64 i, .int .i64 1] 41 ∧ At wr (w.heap.size + 1) (rowK 1 a k) 5 ∧ Below w.heap.size w wr) (fun i2 _ => 1 - (intOf i2).toNat)
  case atStart => exact ⟨0, rfl, by omega, (At.new w _ _).alloc _, At.new1 w _ _ _, below_al (below_al (Below.refl _ _) _) _⟩
  case round =>
    obtain ⟨k, rfl, hk, ha, hr, hb⟩ := hrel
    have c1 := ha.c 1 rfl
    have HA := Lib.hid ha
    have HR := Lib.hid hr
    have HB := Lib.hid hb
    have HZ := Lib.hid hr.lt
    clear ha hr hb
    have hcs : k = 0 ∨ k = 1 := by omega
    rcases hcs with rfl | rfl
    · have d0 := HR.out.c 0 (rowK_at 1 a 0 (by omega))
      have f0 := HR.out.f 0
      have z0 := HZ.out
      go_wp2
      go_roundw
      case rel => exact ⟨1, rfl, by omega, HA.out.off (by omega), at_setK HR.out (by omega) (by simp), HB.out.setCell (p := ⟨w.heap.size + 1, 0, none⟩) (by simp) _⟩
      case measure => simp [intOf]
    · go_wp2
      go_ret
      exact ⟨_, by omega, rfl, by rw [← rowK_end]; exact HR.out, HB.out⟩
set_option maxRecDepth 100000 in
set_option maxHeartbeats 1000000 in
theorem split2 (i : Int) (a : Nat) (w : World) : Calls Tryd.prog 22 #[.agg #[.int .i64 i, .int .i64 2], .int .u64 (a : Int)] w (SplitPost 2 a w) := by
  have hmk : ∀ W : World, (Instr.makeSlice 38 (.int .i64 2) (.int .i64 2)).run Tryd.prog W = .ok (.slice (some ⟨W.heap.size, 0, none⟩) 2 2) (W.alloc (.cells (rowK 2 a 0) 5)) := fun W => by
    rw [← rowH_K 2 a]; exact run_make_h W 2 (by omega)
  go_enter Tryd.func22, Tryd.ntmps22
  go_wp2
  clear hmk
  go_loopw [12] (fun i2 wr => ∃ k : Nat, i2 = .int .i64 k ∧ k ≤ 2 ∧ At wr w.heap.size #[.int .i64 i, .int .i64 2] 41 ∧ At wr (w.heap.size + 1) (rowK 2 a k) 5 ∧ Below w.heap.size w wr) (fun i2 _ => 2 - (intOf i2).toNat)
  case atStart => exact ⟨0, rfl, by omega, (At.new w _ _).alloc _, At.new1 w _ _ _, below_al (below_al (Below.refl _ _) _) _⟩
  case round =>
    obtain ⟨k, rfl, hk, ha, hr, hb⟩ := hrel
    have c1 := ha.c 1 rfl
    have HA := Lib.hid ha
    have HR := Lib.hid hr
    have HB := Lib.hid hb
    have HZ := Lib.hid hr.lt
    clear ha hr hb
    have hcs : k = 0 ∨ k = 1 ∨ k = 2 := by omega
    rcases hcs with rfl | rfl | rfl
    · have d0 := HR.out.c 0 (rowK_at 2 a 0 (by omega))
      have f0 := HR.out.f 0
      have z0 := HZ.out
      go_wp2
      go_roundw
      case rel => exact ⟨1, rfl, by omega, HA.out.off (by omega), at_setK HR.out (by omega) (by simp), HB.out.setCell (p := ⟨w.heap.size + 1, 0, none⟩) (by simp) _⟩
      case measure => simp [intOf]
    · have d0 := HR.out.c 1 (rowK_at 2 a 1 (by omega))
      have f0 := HR.out.f 1
      have z0 := HZ.out
      go_wp2
      go_roundw
      case rel => exact ⟨2, rfl, by omega, HA.out.off (by omega), at_setK HR.out (by omega) (by simp), HB.out.setCell (p := ⟨w.heap.size + 1, 1, none⟩) (by simp) _⟩
      case measure => simp [intOf]
    · go_wp2
      go_ret
      exact ⟨_, by omega, rfl, by rw [← rowK_end]; exact HR.out, HB.out⟩
set_option maxRecDepth 100000 in
set_option maxHeartbeats 1000000 in
theorem split4 (i : Int) (a : Nat) (w : World) : Calls Tryd.prog 22 #[.agg #[.int .i64 i, .int .i64 4], .int .u64 (a : Int)] w (SplitPost 4 a w) := by
  have hmk : ∀ W : World, (Instr.makeSlice 38 (.int .i64 4) (.int .i64 4)).run Tryd.prog W = .ok (.slice (some ⟨W.heap.size, 0, none⟩) 4 4) (W.alloc (.cells (rowK 4 a 0) 5)) := fun W => by
    rw [← rowH_K 4 a]; exact run_make_h W 4 (by omega)
  go_enter Tryd.func22, Tryd.ntmps22
  go_wp2
  clear hmk
  go_loopw [12] (fun i2 wr => ∃ k : Nat, i2 = .int .i64 k ∧ k ≤ 4 ∧ At wr w.heap.size #[.int .i64 i, .int .i64 4] 41 ∧ At wr (w.heap.size + 1) (rowK 4 a k) 5 ∧ Below w.heap.size w wr) (fun i2 _ => 4 - (intOf i2).toNat)
  case atStart => exact ⟨0, rfl, by omega, (At.new w _ _).alloc _, At.new1 w _ _ _, below_al (below_al (Below.refl _ _) _) _⟩
  case round =>
    obtain ⟨k, rfl, hk, ha, hr, hb⟩ := hrel
    have c1 := ha.c 1 rfl
    have HA := Lib.hid ha
    have HR := Lib.hid hr
    have HB := Lib.hid hb
    have HZ := Lib.hid hr.lt
    clear ha hr hb
    have hcs : k = 0 ∨ k = 1 ∨ k = 2 ∨ k = 3 ∨ k = 4 := by omega
    rcases hcs with rfl | rfl | rfl | rfl | rfl
    · have d0 := HR.out.c 0 (rowK_at 4 a 0 (by omega))
      have f0 := HR.out.f 0
      have z0 := HZ.out
      go_wp2
      go_roundw
      case rel => exact ⟨1, rfl, by omega, HA.out.off (by omega), at_setK HR.out (by omega) (by simp), HB.out.setCell (p := ⟨w.heap.size + 1, 0, none⟩) (by simp) _⟩
      case measure => simp [intOf]
    · have d0 := HR.out.c 1 (rowK_at 4 a 1 (by omega))
      have f0 := HR.out.f 1
      have z0 := HZ.out
      go_wp2
      go_roundw
      case rel => exact ⟨2, rfl, by omega, HA.out.off (by omega), at_setK HR.out (by omega) (by simp), HB.out.setCell (p := ⟨w.heap.size + 1, 1, none⟩) (by simp) _⟩
      case measure => simp [intOf]
    · have d0 := HR.out.c 2 (rowK_at 4 a 2 (by omega))
      have f0 := HR.out.f 2
      have z0 := HZ.out
      go_wp2
      go_roundw
      case rel => exact ⟨3, rfl, by omega, HA.out.off (by omega), at_setK HR.out (by omega) (by simp), HB.out.setCell (p := ⟨w.heap.size + 1, 2, none⟩) (by simp) _⟩
      case measure => simp [intOf]
    · have d0 := HR.out.c 3 (rowK_at 4 a 3 (by omega))
      have f0 := HR.out.f 3
      have z0 := HZ.out
      go_wp2
      go_roundw
      case rel => exact ⟨4, rfl, by omega, HA.out.off (by omega), at_setK HR.out (by omega) (by simp), HB.out.setCell (p := ⟨w.heap.size + 1, 3, none⟩) (by simp) _⟩
      case measure => simp [intOf]
    · go_wp2
      go_ret
      exact ⟨_, by omega, rfl, by rw [← rowK_end]; exact HR.out, HB.out⟩
set_option maxRecDepth 100000 in
set_option maxHeartbeats 1000000 in
theorem split8 (i : Int) (a : Nat) (w : World) : Calls Tryd.prog 22 #[.agg #[.int .i64 i, .int .i64 8], .int .u64 (a : Int)] w (SplitPost 8 a w) := by
  have hmk : ∀ W : World, (Instr.makeSlice 38 (.int .i64 8) (.int .i64 8)).run Tryd.prog W = .ok (.slice (some ⟨W.heap.size, 0, none⟩) 8 8) (W.alloc (.cells (rowK 8 a 0) 5)) := fun W => by
    rw [← rowH_K 8 a]; exact run_make_h W 8 (by omega)
  go_enter Tryd.func22, Tryd.ntmps22
  go_wp2
  clear hmk
  go_loopw [12] (fun i2 wr => ∃ k : Nat, i2 = .int .i64 k ∧ k ≤ 8 ∧ At wr w.heap.size #[.int .i64 i, .int .i64 8] 41 ∧ At wr (w.heap.size + 1) (rowK 8 a k) 5 ∧ Below w.heap.size w wr) (fun i2 _ => 8 - (intOf i2).toNat)
  case atStart => exact ⟨0, rfl, by omega, (At.new w _ _).alloc _, At.new1 w _ _ _, below_al (below_al (Below.refl _ _) _) _⟩
  case round =>
    obtain ⟨k, rfl, hk, ha, hr, hb⟩ := hrel
    have c1 := ha.c 1 rfl
    have HA := Lib.hid ha
    have HR := Lib.hid hr
    have HB := Lib.hid hb
    have HZ := Lib.hid hr.lt
    clear ha hr hb
    have hcs : k = 0 ∨ k = 1 ∨ k = 2 ∨ k = 3 ∨ k = 4 ∨ k = 5 ∨ k = 6 ∨ k = 7 ∨ k = 8 := by omega
    rcases hcs with rfl | rfl | rfl | rfl | rfl | rfl | rfl | rfl | rfl
    · have d0 := HR.out.c 0 (rowK_at 8 a 0 (by omega))
      have f0 := HR.out.f 0
      have z0 := HZ.out
      go_wp2
      go_roundw
      case rel => exact ⟨1, rfl, by omega, HA.out.off (by omega), at_setK HR.out (by omega) (by simp), HB.out.setCell (p := ⟨w.heap.size + 1, 0, none⟩) (by simp) _⟩
      case measure => simp [intOf]
    · have d0 := HR.out.c 1 (rowK_at 8 a 1 (by omega))
      have f0 := HR.out.f 1
      have z0 := HZ.out
      go_wp2
      go_roundw
      case rel => exact ⟨2, rfl, by omega, HA.out.off (by omega), at_setK HR.out (by omega) (by simp), HB.out.setCell (p := ⟨w.heap.size + 1, 1, none⟩) (by simp) _⟩
      case measure => simp [intOf]
    · have d0 := HR.out.c 2 (rowK_at 8 a 2 (by omega))
      have f0 := HR.out.f 2
      have z0 := HZ.out
      go_wp2
      go_roundw
      case rel => exact ⟨3, rfl, by omega, HA.out.off (by omega), at_setK HR.out (by omega) (by simp), HB.out.setCell (p := ⟨w.heap.size + 1, 2, none⟩) (by simp) _⟩
      case measure => simp [intOf]
    · have d0 := HR.out.c 3 (rowK_at 8 a 3 (by omega))
      have f0 := HR.out.f 3
      have z0 := HZ.out
      go_wp2
      go_roundw
      case rel => exact ⟨4, rfl, by omega, HA.out.off (by omega), at_setK HR.out (by omega) (by simp), HB.out.setCell (p := ⟨w.heap.size + 1, 3, none⟩) (by simp) _⟩
      case measure => simp [intOf]
    · have d0 := HR.out.c 4 (rowK_at 8 a 4 (by omega))
      have f0 := HR.out.f 4
      have z0 := HZ.out
      go_wp2
      go_roundw
      case rel => exact ⟨5, rfl, by omega, HA.out.off (by omega), at_setK HR.out (by omega) (by simp), HB.out.setCell (p := ⟨w.heap.size + 1, 4, none⟩) (by simp) _⟩
      case measure => simp [intOf]
    · have d0 := HR.out.c 5 (rowK_at 8 a 5 (by omega))
      have f0 := HR.out.f 5
      have z0 := HZ.out
      go_wp2
      go_roundw
      case rel => exact ⟨6, rfl, by omega, HA.out.off (by omega), at_setK HR.out (by omega) (by simp), HB.out.setCell (p := ⟨w.heap.size + 1, 5, none⟩) (by simp) _⟩
      case measure => simp [intOf]
    · have d0 := HR.out.c 6 (rowK_at 8 a 6 (by omega))
      have f0 := HR.out.f 6
      have z0 := HZ.out
      go_wp2
      go_roundw
      case rel => exact ⟨7, rfl, by omega, HA.out.off (by omega), at_setK HR.out (by omega) (by simp), HB.out.setCell (p := ⟨w.heap.size + 1, 6, none⟩) (by simp) _⟩
      case measure => simp [intOf]
    · have d0 := HR.out.c 7 (rowK_at 8 a 7 (by omega))
      have f0 := HR.out.f 7
      have z0 := HZ.out
      go_wp2
      go_roundw
      case rel => exact ⟨8, rfl, by omega, HA.out.off (by omega), at_setK HR.out (by omega) (by simp), HB.out.setCell (p := ⟨w.heap.size + 1, 7, none⟩) (by simp) _⟩
      case measure => simp [intOf]
    · go_wp2
      go_ret
      exact ⟨_, by omega, rfl, by rw [← rowK_end]; exact HR.out, HB.out⟩
theorem split_calls (i : Int) (n a : Nat) (w : World) (hn : n = 0 ∨ n = 1 ∨ n = 2 ∨ n = 4 ∨ n = 8) : Calls Tryd.prog 22 #[.agg #[.int .i64 i, .int .i64 (n : Int)], .int .u64 (a : Int)] w (SplitPost n a w) := by
  rcases hn with rfl | rfl | rfl | rfl | rfl
  · exact split0 i a w
  · exact split1 i a w
  · exact split2 i a w
  · exact split4 i a w
  · exact split8 i a w
end Go.Proofs.YtgaaiiacdeejfaaDoor
