/- slices.Backward over limbs, and the walk of compare. -/
import Derived.Test.YtkdbiilpnijocaaDoorW1
import Derived.Test.YtkdbiilpnijocaaDoorMath
import Derived.RangeFuncNested
import Derived.RangeFuncBound
import Derived.RangeFuncCalls
import Derived.RangeFuncLeaves
import Derived.RangeFuncBox
import Derived.Shelf.Abstract
import Derived.Shelf.RegionOpen
import Derived.OwnWalkIn
import Derived.TacticsInMore
import Derived.LoopNIn
import Derived.LoopIn
namespace Go.Proofs.YtkdbiilpnijocaaDoor
open Go.RowKit Go.Shelf

attribute [local go_sem] Oper.semAt_some

/-- A place of L and what stands there. -/
abbrev LX (L : List Nat) := { x : Nat × Nat // x.1 < L.length ∧ x.2 = lat L x.1 }
/-- The blocks of S lie as they lay. -/
def Kpt (S : Nat → Prop) (A B : World) : Prop := A.heap.size ≤ B.heap.size ∧ ∀ k, S k → B.heap[k]? = A.heap[k]?
theorem Kpt.refl (S : Nat → Prop) (A : World) : Kpt S A A := ⟨Nat.le_refl _, fun _ _ => rfl⟩
theorem Kpt.trans {S : Nat → Prop} {A B C : World} (h : Kpt S A B) (k : Kpt S B C) : Kpt S A C := ⟨Nat.le_trans h.1 k.1, fun i hi => (k.2 i hi).trans (h.2 i hi)⟩
theorem Kpt.cell {S : Nat → Prop} {A B : World} (h : Kpt S A B) {p : Addr} (hp : S p.block) : B.cell? p = A.cell? p := World.cell?_of_block (w := A) (h.2 p.block hp)
theorem Kpt.book {S : Nat → Prop} {w : World} (hS : ∀ k, S k → k < w.heap.size) (W : World) (l : Nat) (o o' : Obj) (hl : w.heap.size ≤ l) (_ : W.heap[l]? = some o) (_ : o.isCells = false) (_ : o.isWalk = false) : Kpt S W (W.putObj l o') :=
  ⟨by simp [World.putObj], fun k hk => World.putObj_heap_other (by have := hS k hk; omega)⟩

set_option maxRecDepth 100000 in
set_option maxHeartbeats 2000000 in
theorem back1_in (n : Nat) (hn : 1 ≤ n) (l Bs b off cap : Nat) (S : Nat → Prop) (L : List Nat) (hl : L.length ≤ 1000) (hb : S b) (hBn : S Bs) (J Jx : List (LX L) → World → Prop)
    (hY : ∀ pre x W, J pre W → pre.length < L.length → YieldAt Fence.wide (n - 1) Tryd.prog l #[.int .i64 (x.1.1 : Int), .int .u32 (x.1.2 : Int)] W fun e W' =>
      (e = .returned (.bool true) ∧ J (pre ++ [x]) W' ∧ Kpt S W W') ∨ (e = .returned (.bool false) ∧ Jx (pre ++ [x]) W'))
    (W : World) (hBs : W.cell? ⟨Bs, 0, none⟩ = some (.slice (some ⟨b, off, none⟩) L.length cap)) (hc : ∀ j, j < L.length → W.cell? ⟨b, off + j, none⟩ = some (.int .u32 (lat L j : Nat))) (h0 : J [] W) :
    CallsIn Fence.wide n Tryd.prog 67 #[.func (.yield l) #[] #[], .pointer (some ⟨Bs, 0, none⟩)] W fun e W' => (∃ v, e = .returned v) ∧
      ((∃ ys, ys.map (·.1) = backP L L.length ∧ J ys W') ∨ (∃ pre, (∃ k, k ≤ L.length ∧ pre.map (·.1) = backP L k) ∧ Jx pre W')) := by
  have HC := Lib.hid hc
  have HY := Lib.hid hY
  clear hc hY
  refine callsIn_of_wp Tryd.func67 rfl trivial ?_ rfl
  simp only [Tryd.ntmps67, List.size_toArray, List.length_cons, List.length_nil, Nat.reduceAdd, Nat.reduceSub, Array.replicate_succ, Array.replicate_zero, List.push_toArray, List.append_toArray, List.nil_append, List.cons_append]
  gi_wp2
  gi_loopw [3] (fun i wr => ∃ (m : Nat) (pre : List (LX L)), m ≤ L.length ∧ i = .int .i64 ((m : Int) - 1) ∧ pre.map (·.1) = backP L (L.length - m) ∧ J pre wr ∧ Kpt S W wr)
    (fun i _ => (intOf i + 1).toNat)
  case atStart => exact ⟨L.length, [], Nat.le_refl _, rfl, by simp [backP], h0, Kpt.refl _ _⟩
  case round =>
    obtain ⟨m, pre, hm, rfl, hpre, hJs, hnx⟩ := hrel
    have HP := Lib.hid hpre
    clear hpre
    have hBs2 := (hnx.cell (p := ⟨Bs, 0, none⟩) hBn).trans hBs
    rcases m with _ | m
    · gi_wp2
      go_end0
      exact ⟨⟨_, rfl⟩, .inl ⟨pre, by rw [HP.out]; simp, hJs⟩⟩
    · have e1 : ((m + 1 : Nat) : Int) - 1 = (m : Int) := by omega
      rw [e1]
      clear e1
      have hcx : wr.cell? ⟨b, off + m, none⟩ = some (.int .u32 (lat L m : Nat)) := (hnx.cell (p := ⟨b, off + m, none⟩) hb).trans (HC.out m (by omega))
      obtain ⟨fn, tmps, assign, body, hy, hR⟩ := HY.out pre ⟨(m, lat L m), by omega, rfl⟩ wr hJs (by have := congrArg List.length HP.out; simp [backP_length] at this; omega)
      dsimp only at hy
      gi_wp2
      refine hR.mono ?_
      rintro e W3 (⟨rfl, hJ3, hk3⟩ | ⟨rfl, hJx3⟩)
      · gi_wp2
        go_roundw
        case rel => exact ⟨m, pre ++ [⟨(m, lat L m), by omega, rfl⟩], by omega, by go_num, by rw [List.map_append, HP.out, show L.length - m = L.length - (m + 1) + 1 from by omega, backP_succ, show L.length - 1 - (L.length - (m + 1)) = m from by omega]; rfl, hJ3, hnx.trans hk3⟩
        case measure => simp [intOf]
      · gi_wp2
        refine bodyPost_ret (results_none rfl _ _ _) rfl ?_
        exact ⟨⟨_, rfl⟩, .inr ⟨_, ⟨L.length - m, by omega, by rw [List.map_append, HP.out, show L.length - m = L.length - (m + 1) + 1 from by omega, backP_succ, show L.length - 1 - (L.length - (m + 1)) = m from by omega]; rfl⟩, hJx3⟩⟩

set_option maxRecDepth 100000 in
set_option maxHeartbeats 1000000 in
theorem back1_nil_in (n : Nat) (l Bs : Nat) (J : List (LX []) → World → Prop) (W : World) (hBs : W.cell? ⟨Bs, 0, none⟩ = some (.slice none 0 0)) (h0 : J [] W) :
    CallsIn Fence.wide n Tryd.prog 67 #[.func (.yield l) #[] #[], .pointer (some ⟨Bs, 0, none⟩)] W fun e W' => (∃ v, e = .returned v) ∧ J [] W' := by
  refine callsIn_of_wp Tryd.func67 rfl trivial ?_ rfl
  simp only [Tryd.ntmps67, List.size_toArray, List.length_cons, List.length_nil, Nat.reduceAdd, Nat.reduceSub, Array.replicate_succ, Array.replicate_zero, List.push_toArray, List.append_toArray, List.nil_append, List.cons_append]
  gi_wp2
  gi_loopw [3] (fun i wr => i = .int .i64 (-1) ∧ J [] wr) (fun _ _ => 0)
  case atStart => exact ⟨rfl, h0⟩
  case round =>
    obtain ⟨rfl, hJs⟩ := hrel
    gi_wp2
    go_end0
    exact ⟨⟨_, rfl⟩, hJs⟩

set_option maxHeartbeats 1000000 in
theorem back_in (n : Nat) (v : Value) (w : World) (a : Option Addr) (len cap : Nat) (hv : v = .slice a len cap) :
    CallsIn Fence.wide n Tryd.prog 54 #[v] w fun e w' => e = .returned (.func (.func 67) #[] #[.pointer (some ⟨w.heap.size, 0, none⟩)]) ∧ w' = w.alloc (.cells #[v] 50) := by
  subst hv
  refine callsIn_of_wp Tryd.func54 rfl trivial ?_ rfl
  simp only [Tryd.ntmps54, List.size_toArray, List.length_cons, List.length_nil, Nat.reduceAdd, Nat.reduceSub, Array.replicate_succ, Array.replicate_zero, List.push_toArray, List.append_toArray, List.nil_append, List.cons_append]
  gi_wp2
  go_ret
  exact ⟨rfl, rfl⟩

/-- slices.Backward hands over the places from the last one on. S: blocks that do not turn while the loop runs. -/
theorem back_stops (n : Nat) (hn : 1 ≤ n) (Bs : Nat) (S : Nat → Prop) (v : Value) (L : List Nat) (hl : L.length ≤ 1000) (w : World) (hBw : Bs < w.heap.size) (hBs : S Bs)
    (hc : w.cell? ⟨Bs, 0, none⟩ = some v) (hI : Lm w v L) (hlt : ∀ b off len cap, v = .slice (some ⟨b, off, none⟩) len cap → S b) :
    SeqStopsK Fence.wide n Tryd.prog 67 #[.pointer (some ⟨Bs, 0, none⟩)] (fun x : LX L => #[Value.int .i64 (x.1.1 : Int), Value.int .u32 (x.1.2 : Int)]) (Kpt S) (fun ys => ys.map (·.1) = backP L L.length)
      (fun pre => ∃ k, k ≤ L.length ∧ pre.map (·.1) = backP L k) L.length w := fun l J Jx W hW _ _ hY h0 => by
  have hc' := (hW.cell (p := ⟨Bs, 0, none⟩) hBw).trans hc
  rcases hI.below hW with ⟨rfl, rfl⟩ | ⟨b, off, cap, rfl, _, _, hcs⟩
  · exact (back1_nil_in n l Bs J W hc' h0).mono fun e W' ⟨he, hj⟩ => ⟨he, .inl ⟨_, rfl, hj⟩⟩
  · exact back1_in n hn l Bs b off cap S L hl (hlt _ _ _ _ rfl) hBs J Jx hY W hc' hcs h0
end Go.Proofs.YtkdbiilpnijocaaDoor
