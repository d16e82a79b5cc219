/- The iterator values, and the walk of exponent. -/
import Derived.Test.YtifccjchpciicaaGreatDoorEB
import Derived.Test.YtifccjchpciicaaGreatDoorRead
import Derived.RangeFuncKeeps
import Derived.RangeFuncWrites
namespace Go.Proofs.YtifccjchpciicaaGreatDoor
open Go.RowKit Go.Shelf
open Go.Lib (decDigits nDigits)

attribute [local go_sem] Oper.semAt_some

/-- What a digit is worth. -/
abbrev VX := { x : Nat // x < 10 }
def vB (s : ByteArray) (k : Nat) : List Nat := (List.range k).map fun t => (byteAt s t).toNat - 48
theorem vB_succ (s : ByteArray) (k : Nat) : vB s (k + 1) = vB s k ++ [(byteAt s k).toNat - 48] := by simp [vB, List.range_succ]
theorem vB_length (s : ByteArray) (k : Nat) : (vB s k).length = k := by simp [vB]

set_option maxRecDepth 100000 in
set_option maxHeartbeats 2000000 in
theorem vals1_in (n : Nat) (hn : 1 ≤ n) (l Bs : Nat) (s : ByteArray) (hd : Digd s s.size) (J Jx : List VX → World → Prop)
    (hY : ∀ pre x W, J pre W → pre.length < s.size → YieldAt Fence.wide (n - 1) Tryz.prog l #[.int .i64 (x.1 : Int)] W fun e W' =>
      (e = .returned (.bool true) ∧ J (pre ++ [x]) W' ∧ KeepsWalks W W') ∨ (e = .returned (.bool false) ∧ Jx (pre ++ [x]) W'))
    (W : World) (hJ : AbidesFrom W.heap.size J) (hBs : W.cell? ⟨Bs, 0, none⟩ = some (.string s)) (h0 : J [] W) :
    CallsIn Fence.wide n Tryz.prog 74 #[.func (.yield l) #[] #[], .pointer (some ⟨Bs, 0, none⟩)] W fun e W' => (∃ v, e = .returned v) ∧
      ((∃ ys, ys.map (·.1) = vB s s.size ∧ J ys W') ∨ (∃ pre, (∃ k, k ≤ s.size ∧ pre.map (·.1) = vB s k) ∧ Jx pre W')) := by
  have HY := Lib.hid hY
  have HJ := Lib.hid hJ
  have HD := Lib.hid hd
  clear hY hJ hd
  refine callsIn_of_wp Tryz.func74 rfl trivial ?_ rfl
  simp only [Tryz.ntmps74, List.size_toArray, List.length_cons, List.length_nil, Nat.reduceAdd, Nat.reduceSub, Array.replicate_succ, Array.replicate_zero, List.push_toArray, List.append_toArray, List.nil_append, List.cons_append]
  gi_wp2
  gi_loopw [4] (fun _ wr => ∃ (k : Nat) (pre : List VX), k ≤ s.size ∧ pre.map (·.1) = vB s k ∧ J pre wr ∧ wr.heap[W.heap.size]? = some (.stringIter s k)) (fun _ wr => s.size - wr.iterPos W.heap.size)
  case atStart => exact ⟨0, [], Nat.zero_le _, by simp [vB], HJ.out [] W _ none h0 (World.grownBy_alloc W _ none) (fun r e => by cases e), World.iter_heap W s 0⟩
  case round =>
    obtain ⟨k, pre, hk, hpre, hJs, hit⟩ := hrel
    have HP := Lib.hid hpre
    have HIt := Lib.hid hit
    clear hpre hit
    by_cases hlt : k < s.size
    · have hdig := (isD_iff _).1 (HD.out k hlt)
      have ha : (s[k]'hlt).toNat < 128 := by rw [← byteAt_eq s k hlt]; omega
      have hnx := fun ty => Lib.run_next_ascii_at (P := Tryz.prog) wr W.heap.size s k ty HIt.out hlt ha
      have hbt : (s[k]'hlt).toNat = (byteAt s k).toNat := by rw [byteAt_eq s k hlt]
      simp only [hbt] at hnx
      obtain ⟨W1, hW1⟩ : ∃ W1, W1 = wr.iterAt W.heap.size s (k + 1) := ⟨_, rfl⟩
      simp only [← hW1] at hnx
      have HIt1 : Hid (W1.heap[W.heap.size]? = some (.stringIter s (k + 1))) := Lib.hid (by rw [hW1]; exact Lib.iterAt_heap wr _ s k _ HIt.out)
      have hJ1 : J pre W1 := by
        rw [hW1]
        exact HJ.out pre wr _ (some W.heap.size) hJs ⟨rfl, rfl, rfl, by rw [Lib.iterAt_size]; exact Nat.le_refl _, fun k _ hk => Lib.iterAt_other wr _ _ s _ (fun e => hk (by rw [e]))⟩ (fun r e => by cases e; exact ⟨Nat.le_refl _, _, HIt.out, rfl⟩)
      obtain ⟨x, hx⟩ : ∃ x : VX, x.1 = (byteAt s k).toNat - 48 := ⟨⟨_, by omega⟩, rfl⟩
      have HX := Lib.hid hx
      obtain ⟨fn, tmps, assign, body, hy, hR⟩ := HY.out pre x W1 hJ1 (by have := congrArg List.length HP.out; rw [vB_length, List.length_map] at this; omega)
      have hb1 : (48 : Int) ≤ ((byteAt s k).toNat : Int) := by omega
      have hb2 : ((byteAt s k).toNat : Int) ≤ 57 := by omega
      have hb3 : ((byteAt s k).toNat : Int) - 48 = (x.1 : Int) := by omega
      clear hW1 hbt ha hJs hJ1 hx hdig
      gi_wp2
      refine hR.mono ?_
      rintro e W3 (⟨rfl, hJ3, hk3⟩ | ⟨rfl, hJx3⟩)
      · gi_wp2
        have hit3 := hk3.same _ _ HIt1.out rfl
        refine ⟨⟨k + 1, pre ++ [x], hlt, by rw [List.map_append, HP.out, vB_succ, List.map_singleton, HX.out], hJ3, hit3⟩, ?_⟩
        rw [World.iterPos, World.iterPos, hit3, HIt.out]
        show s.size - (k + 1) < s.size - k
        omega
      · gi_wp2
        refine bodyPost_ret (results_none rfl _ _ _) rfl ?_
        exact ⟨⟨_, rfl⟩, .inr ⟨_, ⟨k + 1, hlt, by rw [List.map_append, HP.out, vB_succ, List.map_singleton, HX.out]⟩, hJx3⟩⟩
    · have hnx := fun ty => Lib.run_next_end_at (P := Tryz.prog) wr W.heap.size s k ty HIt.out hlt
      obtain rfl : k = s.size := by omega
      gi_wp2
      go_end0
      exact ⟨⟨_, rfl⟩, .inl ⟨pre, HP.out, hJs⟩⟩
end Go.Proofs.YtifccjchpciicaaGreatDoor
