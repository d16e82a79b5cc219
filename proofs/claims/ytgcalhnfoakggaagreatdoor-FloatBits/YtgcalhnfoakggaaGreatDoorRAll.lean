/- The walk of readAll, of two texts. -/
import Derived.Test.YtgcalhnfoakggaaGreatDoorRead
import Derived.ScopeJumps
import Derived.LoopN
namespace Go.Proofs.YtgcalhnfoakggaaGreatDoor
open Go.RowKit

/-- What read hands back of a natural. -/
def ReadYes (n : Nat) (w : World) (e : Ending) (w' : World) : Prop := ∃ R v, e = .returned (.tuple #[v, .bool true]) ∧ Lm w' v R ∧ Bd R ∧ Nm R ∧ val R = n ∧ R.length ≤ 45 ∧ Below w.heap.size w w'
theorem read_yes (s : ByteArray) (w : World) (h : isNat s.data.toList = true) : Calls Tryz.prog 72 #[.string s] w (ReadYes (dv s.data.toList) w) :=
  (read_calls s w).mono fun e w' hp => by
    rcases hp with ⟨h0, _⟩ | ⟨_, R, v, hh⟩
    · rw [h] at h0; cases h0
    · exact ⟨R, v, hh⟩
theorem read_none (s : ByteArray) (w : World) (h : isNat s.data.toList = false) : Calls Tryz.prog 72 #[.string s] w fun e w' => e = .returned (.tuple #[.slice none 0 0, .bool false]) ∧ Below w.heap.size w w' :=
  (read_calls s w).mono fun e w' hp => by
    rcases hp with ⟨_, hh⟩ | ⟨h1, _⟩
    · exact hh
    · rw [h] at h1; cases h1

def AllYes (a b : Nat) (w : World) (e : Ending) (w' : World) : Prop := ∃ g cap, 2 ≤ cap ∧ e = .returned (.tuple #[.slice (some ⟨g, 0, none⟩) 2 cap, .bool true]) ∧ Two a b g w' ∧ Below w.heap.size w w'

theorem info50 : (Tryz.prog.info? 96).map (fun i => (i.zero, i.size, i.bytes)) = some (some (.slice none 0 0), 1, 24) := by kernel_rfl

/-- Block g holds two slices. -/
def Pair (W : World) (g : Nat) (v0 v1 : Value) : Prop := W.heap[g]? = some (.cells #[v0, v1] 96 (0, 0))
theorem Pair.lt {W : World} {g : Nat} {v0 v1 : Value} (h : Pair W g v0 v1) : g < W.heap.size := (Array.getElem?_eq_some_iff.1 h).1
theorem Pair.cell0 {W : World} {g : Nat} {v0 v1 : Value} (h : Pair W g v0 v1) : W.cell? ⟨g, 0, none⟩ = some v0 := by simp [World.cell?, show W.heap[g]? = _ from h]
theorem Pair.cell1 {W : World} {g : Nat} {v0 v1 : Value} (h : Pair W g v0 v1) : W.cell? ⟨g, 1, none⟩ = some v1 := by simp [World.cell?, show W.heap[g]? = _ from h]
theorem Pair.frozen {W : World} {g : Nat} {v0 v1 : Value} (h : Pair W g v0 v1) (j : Nat) : W.frozen? ⟨g, j, none⟩ = false := by simp [World.frozen?, show W.heap[g]? = _ from h]
theorem Pair.set0 {W : World} {g : Nat} {v0 v1 : Value} (h : Pair W g v0 v1) (u : Value) : Pair (W.setCell ⟨g, 0, none⟩ u) g u v1 := by
  obtain ⟨hlt, hk⟩ := Array.getElem?_eq_some_iff.1 h
  show (W.heap.modify g _)[g]? = _
  rw [Array.getElem?_eq_getElem (by rw [Array.size_modify]; exact hlt), Array.getElem_modify_self, hk]
  rfl
theorem Pair.set1 {W : World} {g : Nat} {v0 v1 : Value} (h : Pair W g v0 v1) (u : Value) : Pair (W.setCell ⟨g, 1, none⟩ u) g v0 u := by
  obtain ⟨hlt, hk⟩ := Array.getElem?_eq_some_iff.1 h
  show (W.heap.modify g _)[g]? = _
  rw [Array.getElem?_eq_getElem (by rw [Array.size_modify]; exact hlt), Array.getElem_modify_self, hk]
  rfl

theorem Lm.setCell {W : World} {v : Value} {L : List Nat} (h : Lm W v L) {p : Addr} {a : Option Addr} {n c : Nat} (hp : W.cell? p = some (.slice a n c)) (u : Value) : Lm (W.setCell p u) v L := by
  rcases h with h | ⟨b, off, cap, rfl, hc, hlt, hcs⟩
  · exact .inl h
  · refine .inr ⟨b, off, cap, rfl, hc, by simpa [World.setCell] using hlt, fun j hj => ?_⟩
    rw [World.cell?_setCell_other _ _ _ _ (fun e => by rw [e, hcs j hj] at hp; cases hp)]
    exact hcs j hj

set_option maxRecDepth 100000 in
set_option maxHeartbeats 1000000 in
theorem readAll_yes (sa sb : ByteArray) (bt : Nat) (w : World) (hbt : bt < w.heap.size) (h0 : w.cell? ⟨bt, 0, none⟩ = some (.string sa)) (h1 : w.cell? ⟨bt, 1, none⟩ = some (.string sb))
    (ha : isNat sa.data.toList = true) (hb : isNat sb.data.toList = true) :
    Calls Tryz.prog 66 #[.slice (some ⟨bt, 0, none⟩) 2 2] w (AllYes (dv sa.data.toList) (dv sb.data.toList) w) := by
  have hmk : ∀ w, (Instr.makeSlice 99 (.int .i64 0) (.int .i64 2)).run Tryz.prog w = .ok (.slice (some ⟨w.heap.size, 0, none⟩) 0 2) (w.alloc (.cells #[.slice none 0 0, .slice none 0 0] 96)) := fun _ => by kernel_rfl
  obtain ⟨i0, hi, hz0, hz1, hz2⟩ := info_parts info50
  have HA := Lib.hid ha
  have HB := Lib.hid hb
  have HI := Lib.hid hi
  have HZ := Lib.hid hz1
  clear ha hb hi hz0 hz1 hz2
  go_enter Tryz.func66, Tryz.ntmps66
  go_wp2
  go_step3
  go_wp2
  refine wp_loop_rounds 3 ?_
  rw [rounds_succ]
  go_wp2_with (first
    | (go_at_call 72; (with_reducible refine (read_yes _ _ HA.out).mono ?_); rintro e w1 ⟨R1, v1, rfl, hl1, hd1, hn1, hv1, hr1, hb1⟩; obtain ⟨a1, c1, rfl⟩ := hl1.shape; have HL1 := Lib.hid hl1; have HV1 := Lib.hid hv1; have hp1 : Pair w1 w.heap.size (.slice none 0 0) (.slice none 0 0) := (hb1.block _ (by simp)).trans (World.alloc_heap_new w _); have hc1 := hp1.cell0; have hf1 := hp1.frozen 0; have hs1 := hp1.lt; have HP1 := Lib.hid hp1; clear hl1 hv1 hp1))
  obtain ⟨W2, hW2⟩ : ∃ W2, W2 = (w1.setCell ⟨w.heap.size, 0, none⟩ (.slice a1 R1.length c1)).alloc (.cells #[.slice a1 R1.length c1] 96) := ⟨_, rfl⟩
  have hz2 : (w1.setCell ⟨w.heap.size, 0, none⟩ (.slice a1 R1.length c1)).heap.size = w1.heap.size := by simp [World.setCell]
  have hb2 : Below w.heap.size w W2 := by
    rw [hW2]
    exact ((((Below.refl _ w).alloc (Nat.le_refl _) _).trans (hb1.mono (by simp))).setCell (p := ⟨w.heap.size, 0, none⟩) (Nat.le_refl _) _).alloc (by rw [hz2]; omega) _
  have hp2 : Pair W2 w.heap.size (.slice a1 R1.length c1) (.slice none 0 0) := by rw [hW2]; exact (Below.heap_alloc _ _ _ (by rw [hz2]; exact hs1)).trans (HP1.out.set0 _)
  have hl2 : Lm W2 (.slice a1 R1.length c1) R1 := by rw [hW2]; exact (HL1.out.setCell hc1 _).below ((Below.refl _ _).alloc (Nat.le_refl _) _)
  rw [← hW2]
  have hb20 := (hb2.cell (p := ⟨bt, 1, none⟩) hbt).trans h1
  have HP2 := Lib.hid hp2
  have HL2 := Lib.hid hl2
  have HB2 := Lib.hid hb2
  clear hW2 hz2 hb1 hc1 hf1 hs1 HP1 HL1 hb2 hp2 hl2 h0 h1
  rw [rounds_succ]
  go_wp2_with (first
    | (go_at_call 72; (with_reducible refine (read_yes _ _ HB.out).mono ?_); rintro e w3 ⟨R2, v2, rfl, hl3, hd2, hn2, hv2, hr2, hb3⟩; obtain ⟨a2, c2, rfl⟩ := hl3.shape; have HL3 := Lib.hid hl3; have HV2 := Lib.hid hv2; have hp3 : Pair w3 w.heap.size (.slice a1 R1.length c1) (.slice none 0 0) := (hb3.block _ HP2.out.lt).trans HP2.out; have hc3 := hp3.cell1; have hf3 := hp3.frozen 1; have hs3 := hp3.lt; have HP3 := Lib.hid hp3; have HL4 := Lib.hid (HL2.out.below hb3); clear hl3 hv2 hp3))
  rw [rounds_succ]
  go_wp2
  rw [Exit.noGoto_ret]
  go_ret2
  have hz3 : (w3.setCell ⟨w.heap.size, 1, none⟩ (.slice a2 R2.length c2)).heap.size = w3.heap.size := by simp [World.setCell]
  have hal : Below w3.heap.size (w3.setCell ⟨w.heap.size, 1, none⟩ (.slice a2 R2.length c2)) ((w3.setCell ⟨w.heap.size, 1, none⟩ (.slice a2 R2.length c2)).alloc (.cells #[.slice a2 R2.length c2] 96)) := (Below.refl _ _).alloc (by rw [hz3]; exact Nat.le_refl _) _
  have hp4 : Pair ((w3.setCell ⟨w.heap.size, 1, none⟩ (.slice a2 R2.length c2)).alloc (.cells #[.slice a2 R2.length c2] 96)) w.heap.size (.slice a1 R1.length c1) (.slice a2 R2.length c2) := (Below.heap_alloc _ _ _ (by rw [hz3]; exact hs3)).trans (HP3.out.set1 _)
  rw [← hz3] at hal
  refine ⟨w.heap.size, 2, Nat.le_refl _, rfl, ⟨R1, _, R2, _, hp4.cell0, hp4.cell1, hp4.lt, ⟨(HL4.out.setCell hc3 _).below hal, hd1, hn1, HV1.out, hr1⟩, ⟨(HL3.out.setCell hc3 _).below hal, hd2, hn2, HV2.out, hr2⟩⟩, ?_⟩
  exact ((HB2.out.trans (hb3.mono HB2.out.size)).setCell (p := ⟨w.heap.size, 1, none⟩) (Nat.le_refl _) _).alloc (by rw [hz3]; omega) _

theorem jump_ret (l : Nat) (J : Act → World → Prop) (Q : Exit → Act → World → Prop) (a : Act) (w : World) : Exit.jump l J Q .ret a w = Q .ret a w := rfl

/-- Where readAll jumps: nothing old has turned. -/
def Jumps (w : World) (a : Act) (w' : World) : Prop := (∃ u0 u1 u2 u3 u4 u5 u6 u7 u8 u9 u10 u11 u12 u13 u14 u15 u16 u17 u18 u19 u20 u21 u22 u23 u24 u25 u26 u27 u28 u29 u30 : Value, a = { tmps := #[u0, u1, u2, u3, u4, u5, u6, u7, u8, u9, u10, u11, u12, u13, u14, u15, u16, u17, u18, u19, u20, u21, u22, u23, u24, u25, u26, u27, u28, u29, u30], defers := [] }) ∧ Below w.heap.size w w'

set_option maxRecDepth 100000 in
set_option maxHeartbeats 1000000 in
theorem readAll_no (sa sb : ByteArray) (bt : Nat) (w : World) (hbt : bt < w.heap.size) (h0 : w.cell? ⟨bt, 0, none⟩ = some (.string sa)) (h1 : w.cell? ⟨bt, 1, none⟩ = some (.string sb))
    (hab : (isNat sa.data.toList && isNat sb.data.toList) = false) :
    Calls Tryz.prog 66 #[.slice (some ⟨bt, 0, none⟩) 2 2] w fun e w' => e = .returned (.tuple #[.slice none 0 0, .bool false]) ∧ Below w.heap.size w w' := by
  have hmk : ∀ w, (Instr.makeSlice 99 (.int .i64 0) (.int .i64 2)).run Tryz.prog w = .ok (.slice (some ⟨w.heap.size, 0, none⟩) 0 2) (w.alloc (.cells #[.slice none 0 0, .slice none 0 0] 96)) := fun _ => by kernel_rfl
  go_enter Tryz.func66, Tryz.ntmps66
  go_wp2
  refine wp_scope_jumps 0 (Jumps w) (fun _ _ => 0) rfl ?first ?pass
  case pass =>
    rintro a w' ⟨⟨u0, u1, u2, u3, u4, u5, u6, u7, u8, u9, u10, u11, u12, u13, u14, u15, u16, u17, u18, u19, u20, u21, u22, u23, u24, u25, u26, u27, u28, u29, u30, rfl⟩, hb⟩
    go_wp2
    rw [jump_ret]
    go_wp2
    go_ret2
    exact ⟨rfl, hb⟩
  case first =>
    by_cases ha : isNat sa.data.toList = true
    · have hb : isNat sb.data.toList = false := by rw [ha] at hab; simpa using hab
      have HA := Lib.hid ha
      have HB := Lib.hid hb
      clear ha hb hab
      go_wp2
      refine wp_loop_rounds 2 ?_
      rw [rounds_succ]
      go_wp2_with (first
        | (go_at_call 72; (with_reducible refine (read_yes _ _ HA.out).mono ?_); rintro e w1 ⟨R1, v1, rfl, hl1, _, _, _, _, hb1⟩; obtain ⟨a1, c1, rfl⟩ := hl1.shape; have hp1 : Pair w1 w.heap.size (.slice none 0 0) (.slice none 0 0) := (hb1.block _ (by simp)).trans (World.alloc_heap_new w _); have hc1 := hp1.cell0; have hf1 := hp1.frozen 0; have hs1 := hp1.lt; clear hl1 hp1))
      obtain ⟨W2, hW2⟩ : ∃ W2, W2 = (w1.setCell ⟨w.heap.size, 0, none⟩ (.slice a1 R1.length c1)).alloc (.cells #[.slice a1 R1.length c1] 96) := ⟨_, rfl⟩
      have hz2 : (w1.setCell ⟨w.heap.size, 0, none⟩ (.slice a1 R1.length c1)).heap.size = w1.heap.size := by simp [World.setCell]
      have hb2 : Below w.heap.size w W2 := by
        rw [hW2]
        exact ((((Below.refl _ w).alloc (Nat.le_refl _) _).trans (hb1.mono (by simp))).setCell (p := ⟨w.heap.size, 0, none⟩) (Nat.le_refl _) _).alloc (by rw [hz2]; omega) _
      rw [← hW2]
      have hb20 := (hb2.cell (p := ⟨bt, 1, none⟩) hbt).trans h1
      have HB2 := Lib.hid hb2
      clear hW2 hz2 hb1 hc1 hf1 hs1 hb2 h0 h1
      rw [rounds_succ]
      go_wp2_with (first
        | (go_at_call 72; (with_reducible refine (read_none _ _ HB.out).mono ?_); rintro e w3 ⟨rfl, hb3⟩))
      go_step3
      exact ⟨rfl, ⟨_, _, _, _, _, _, _, _, _, _, _, _, _, _, _, _, _, _, _, _, _, _, _, _, _, _, _, _, _, _, _, rfl⟩, HB2.out.trans (hb3.mono HB2.out.size)⟩
    · have ha' : isNat sa.data.toList = false := by simpa using ha
      have HA := Lib.hid ha'
      clear ha ha' hab
      go_wp2
      refine wp_loop_rounds 1 ?_
      rw [rounds_succ]
      go_wp2_with (first
        | (go_at_call 72; (with_reducible refine (read_none _ _ HA.out).mono ?_); rintro e w3 ⟨rfl, hb3⟩))
      go_step3
      exact ⟨rfl, ⟨_, _, _, _, _, _, _, _, _, _, _, _, _, _, _, _, _, _, _, _, _, _, _, _, _, _, _, _, _, _, _, rfl⟩, ((Below.refl _ w).alloc (Nat.le_refl _) _).trans (hb3.mono (by simp))⟩
end Go.Proofs.YtgcalhnfoakggaaGreatDoor
