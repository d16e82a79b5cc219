/- The walks of the questions and of run. -/
import Derived.Test.YtifccjchpciicaaGreatDoorE5
namespace Go.Proofs.YtifccjchpciicaaGreatDoor
open Go.RowKit
open Go.Lib (decDigits nDigits)

set_option maxRecDepth 100000 in
theorem any1_calls (c : Int) (w : World) : Calls Tryz.prog 95 #[.int .i32 c] w fun o w' => o = .returned (.bool (decide (48 ≤ c) && decide (c ≤ 57))) ∧ w' = w := by
  by_cases h1 : 48 ≤ c
  · have d1 : decide (48 ≤ c) = true := by simpa using h1
    by_cases h2 : c ≤ 57
    · have d2 : decide (c ≤ 57) = true := by simpa using h2
      go_enter Tryz.func95, Tryz.ntmps95
      go_wp2
      go_ret
      exact ⟨by first | rfl | (rw [d1, d2]; rfl), rfl⟩
    · have d2 : decide (c ≤ 57) = false := by simpa using h2
      go_enter Tryz.func95, Tryz.ntmps95
      go_wp2
      go_ret
      exact ⟨by first | rfl | (rw [d1, d2]; rfl), rfl⟩
  · have d1 : decide (48 ≤ c) = false := by simpa using h1
    go_enter Tryz.func95, Tryz.ntmps95
    go_wp2
    go_ret
    exact ⟨by first | rfl | (rw [d1]; rfl), rfl⟩
theorem any1_is (c : Int) (b : Bool) (w : World) (h : (decide (48 ≤ c) && decide (c ≤ 57)) = b) : Calls Tryz.prog 95 #[.int .i32 c] w fun o w' => o = .returned (.bool b) ∧ w' = w := h ▸ any1_calls c w

theorem next_rune {P : Program} (W : World) (k : Nat) (s : ByteArray) (pos : Nat) (hk : W.heap[k]? = some (.stringIter s pos)) (h : pos < s.size) :
    ∃ c δ : Nat, (∀ ty, (Instr.next (.pointer (some ⟨k, 0, none⟩)) true ty).run P W = .ok (.tuple #[.bool true, .int .i64 pos, .int .i32 (c : Int)]) (W.iterAt k s (pos + δ))) ∧ ((c = (byteAt s pos).toNat ∧ δ = 1) ∨ (128 ≤ c ∧ 128 ≤ (byteAt s pos).toNat)) := by
  by_cases ha : (s[pos]'h).toNat < 128
  · exact ⟨_, 1, fun ty => Lib.run_next_ascii_at W k s pos ty hk h ha, .inl ⟨by rw [byteAt_eq s pos h], rfl⟩⟩
  · exact ⟨_, _, fun ty => Lib.run_next_any_at W k s pos ty hk h, .inr ⟨(decode_high s pos h (by omega)).1, by rw [byteAt_eq s pos h]; omega⟩⟩
theorem noGoto_ret {Q : Exit → Act → World → Prop} {a : Act} {w : World} (h : Q .ret a w) : Exit.noGoto Q .ret a w := h

/-- The first bytes are digits. -/
def Digd (s : ByteArray) (k : Nat) : Prop := ∀ q, q < k → isD (byteAt s q) = true
theorem byte_get {s : ByteArray} {q : Nat} (h : q < s.size) : s.data.toList[q]? = some (byteAt s q) := by
  have hl : q < s.data.toList.length := by rw [← Lib.size_eq]; exact h
  rw [byteAt_list, List.getElem?_eq_getElem hl]; rfl
theorem digd_stop {s : ByteArray} {k : Nat} (h : Digd s k) (hk : k < s.size) (hd : isD (byteAt s k) = false) : ndig s.data.toList = k :=
  ndig_stop (fun j hj => ⟨_, byte_get (by omega), h j hj⟩) (fun c hc => by rw [byte_get hk] at hc; cases hc; exact hd)
theorem digd_end {s : ByteArray} (h : Digd s s.size) : ndig s.data.toList = s.size :=
  ndig_stop (fun j hj => ⟨_, byte_get hj, h j hj⟩) (fun c hc => by rw [List.getElem?_eq_none (by rw [← Lib.size_eq]; exact Nat.le_refl _)] at hc; cases hc)
theorem rune_dig {s : ByteArray} {pos c δ : Nat} (h : (c = (byteAt s pos).toNat ∧ δ = 1) ∨ (128 ≤ c ∧ 128 ≤ (byteAt s pos).toNat)) : (decide (48 ≤ (c : Int)) && decide ((c : Int) ≤ 57)) = isD (byteAt s pos) := by
  have hi := isD_iff (byteAt s pos)
  rcases h with ⟨h1, _⟩ | ⟨h1, h2⟩
  · cases hd : isD (byteAt s pos) with
    | true => have := hi.1 hd; simp only [Bool.and_eq_true, decide_eq_true_eq]; omega
    | false =>
      rw [Bool.eq_false_iff]
      intro h3
      simp only [Bool.and_eq_true, decide_eq_true_eq] at h3
      rw [hi.2 (by omega)] at hd
      cases hd
  · have h4 : isD (byteAt s pos) = false := by
      rw [Bool.eq_false_iff]; intro h3; have := hi.1 h3; omega
    rw [h4, Bool.eq_false_iff]
    intro h3
    simp only [Bool.and_eq_true, decide_eq_true_eq] at h3
    omega

theorem ext_end (s : ByteArray) : s.extract s.size s.size = ByteArray.empty := str_inj (by rw [Lib.extract_data]; simp)
theorem digd_succ {s : ByteArray} {k : Nat} (h : Digd s k) (hd : isD (byteAt s k) = true) : Digd s (k + 1) := fun q hq => by
  rcases Nat.lt_succ_iff_lt_or_eq.1 hq with h1 | h1
  · exact h q h1
  · rw [h1]; exact hd
theorem rune_one {s : ByteArray} {pos c δ : Nat} (h : (c = (byteAt s pos).toNat ∧ δ = 1) ∨ (128 ≤ c ∧ 128 ≤ (byteAt s pos).toNat)) (hd : isD (byteAt s pos) = true) : δ = 1 := by
  have := (isD_iff _).1 hd
  rcases h with ⟨_, h⟩ | ⟨_, h⟩
  · exact h
  · omega

set_option maxRecDepth 100000 in
set_option maxHeartbeats 1000000 in
theorem run_any (B : Nat) (s : ByteArray) (n : Bool) (wh fr : ByteArray) (le : Bool) (po : ByteArray) (w : World) (h : RdAt w B s n wh fr le po) :
    Calls Tryz.prog 48 #[.pointer (some ⟨B, 0, none⟩), .func (.func 95) #[] #[]] w fun o w' => o = .returned (.string (s.extract 0 (ndig s.data.toList))) ∧ RdAt w' B (s.extract (ndig s.data.toList) s.size) n wh fr le po ∧ Kb B w w' := by
  have HR := Lib.hid h
  have c0 := h.c0
  clear h
  go_enter Tryz.func48, Tryz.ntmps48
  go_wp2
  refine wp_scope_straight ?_
  go_wp2
  refine wp_label ?_
  go_wp2
  go_loopw [5] (fun v wr => ∃ pos : Nat, pos ≤ s.size ∧ v = .int .i64 (s.size : Int) ∧ Digd s pos ∧ wr.heap[w.heap.size]? = some (.stringIter s pos) ∧ Below w.heap.size w wr) (fun _ wr => s.size - wr.iterPos w.heap.size)
  case atStart =>
    refine ⟨0, Nat.zero_le _, rfl, fun q hq => by omega, World.iter_heap w s 0, ?_⟩
    exact (Below.refl _ w).alloc (Nat.le_refl _) _
  case round =>
    obtain ⟨pos, hpos, rfl, hdg, hit, hB⟩ := hrel
    have HDg := Lib.hid hdg
    have HIt := Lib.hid hit
    have HB := Lib.hid hB
    clear hdg hit hB
    by_cases hp : pos < s.size
    · obtain ⟨c, δ, hnx, hcs⟩ := next_rune (P := Tryz.prog) wr w.heap.size s pos HIt.out hp
      obtain ⟨W1, hW1⟩ : ∃ W1, W1 = wr.iterAt w.heap.size s (pos + δ) := ⟨_, rfl⟩
      simp only [← hW1] at hnx
      have HIt1 : Hid (W1.heap[w.heap.size]? = some (.stringIter s (pos + δ))) := Lib.hid (by rw [hW1]; exact Lib.iterAt_heap wr _ s pos _ HIt.out)
      have HB1 : Hid (Below w.heap.size w W1) := Lib.hid (by rw [hW1]; exact Lib.below_iterAt HB.out (Nat.le_refl _) s _)
      have HCs := Lib.hid hcs
      clear hW1 hcs
      cases hd : isD (byteAt s pos) with
      | true =>
        have HC := Lib.hid (fun w => any1_is (c : Int) true w (by rw [rune_dig HCs.out]; exact hd))
        have HD := Lib.hid hd
        clear hd
        go_wp2_with (go_at_call 95; refine (HC.out _).mono ?_; rintro o w2 ⟨rfl, rfl⟩)
        have hδ := rune_one HCs.out HD.out
        refine ⟨⟨pos + 1, hp, rfl, digd_succ HDg.out HD.out, by rw [HIt1.out, hδ], HB1.out⟩, ?_⟩
        rw [World.iterPos, World.iterPos, HIt1.out, HIt.out, hδ]
        show s.size - (pos + 1) < s.size - pos
        omega
      | false =>
        have HC := Lib.hid (fun w => any1_is (c : Int) false w (by rw [rune_dig HCs.out]; exact hd))
        have HN : Hid (ndig s.data.toList = pos) := Lib.hid (digd_stop HDg.out hp hd)
        have HR1 := Lib.hid (HR.out.below HB1.out)
        have k0 := HR1.out.c0
        have kf := HR1.out.f 0
        have hpi : (pos : Int) ≤ (s.size : Int) := by omega
        clear hd c0
        go_wp2_with (go_at_call 95; refine (HC.out _).mono ?_; rintro o w2 ⟨rfl, rfl⟩)
        refine noGoto_ret ?_
        go_ret
        rw [HN.out]
        exact ⟨rfl, HR1.out.s0 _, (Kb.ofBelow HB1.out).setCell 0 _⟩
    · have hnx := fun ty => Lib.run_next_end_at (P := Tryz.prog) wr w.heap.size s pos ty HIt.out hp
      obtain rfl : pos = s.size := by omega
      have HN : Hid (ndig s.data.toList = s.size) := Lib.hid (digd_end HDg.out)
      have HR1 := Lib.hid (HR.out.below HB.out)
      have k0 := HR1.out.c0
      have kf := HR1.out.f 0
      clear c0
      go_wp2
      refine noGoto_ret ?_
      go_ret
      rw [HN.out, ext_end, ext_all]
      exact ⟨rfl, HR1.out.s0 _, (Kb.ofBelow HB.out).setCell 0 _⟩
end Go.Proofs.YtifccjchpciicaaGreatDoor
