/- The iterator digits. -/
import Derived.Test.YtgcalhnfoakggaaGreatDoorMn1
namespace Go.Proofs.YtgcalhnfoakggaaGreatDoor
open Go.RowKit Go.Shelf

attribute [local go_sem] Oper.semAt_some

/-- A place and a digit. -/
abbrev DX (n : Nat) := { x : Nat × Nat // x.1 < n ∧ x.2 < 4294967296 }
/-- The digit of a byte; what is none is greater than 9. -/
def dgt (c : UInt8) : Nat := (c.toNat + 4294967248) % 4294967296
theorem dgt_lt (c : UInt8) : dgt c < 4294967296 := Nat.mod_lt _ (by omega)
/-- The first k of what digits hands over. -/
def digP (s : ByteArray) (k : Nat) : List (Nat × Nat) := (List.range k).map fun t => (s.size - 1 - t, dgt (byteAt s t))
theorem digP_succ (s : ByteArray) (k : Nat) : digP s (k + 1) = digP s k ++ [(s.size - 1 - k, dgt (byteAt s k))] := by simp [digP, List.range_succ]
theorem digP_length (s : ByteArray) (k : Nat) : (digP s k).length = k := by simp [digP]

theorem wrap_dgt (c : UInt8) : IntKind.u32.wrap ((c.toNat : Int) - 48) = (dgt c : Nat) := by
  have := c.toNat_lt
  rw [IntKind.wrap_u32, dgt]
  omega

set_option maxRecDepth 100000 in
set_option maxHeartbeats 2000000 in
theorem dig1_in (n : Nat) (hn : 1 ≤ n) (l Bs : Nat) (S : Nat → Prop) (s : ByteArray) (hl : s.size ≤ 1000) (hBn : S Bs) (J Jx : List (DX s.size) → World → Prop)
    (hY : ∀ pre x W, J pre W → pre.length < s.size → YieldAt Fence.wide (n - 1) Tryz.prog l #[.int .i64 (x.1.1 : Int), .int .u32 (x.1.2 : Int)] W fun e W' =>
      (e = .returned (.bool true) ∧ J (pre ++ [x]) W' ∧ Kpt S W W') ∨ (e = .returned (.bool false) ∧ Jx (pre ++ [x]) W'))
    (hdr : ∀ pre W, J pre W → J pre W.drew)
    (W : World) (hBs : W.cell? ⟨Bs, 0, none⟩ = some (.string s)) (h0 : J [] W) :
    CallsIn Fence.wide n Tryz.prog 106 #[.func (.yield l) #[] #[], .pointer (some ⟨Bs, 0, none⟩)] W fun e W' => (∃ v, e = .returned v) ∧
      ((∃ ys, ys.map (·.1) = digP s s.size ∧ J ys W') ∨ (∃ pre, (∃ k, k ≤ s.size ∧ pre.map (·.1) = digP s k) ∧ Jx pre W')) := by
  have HY := Lib.hid hY
  have HDR := Lib.hid hdr
  have hmx : Tryz.prog.follows .mixedOrders = true := by kernel_rfl
  clear hY hdr
  refine callsIn_of_wp Tryz.func106 rfl trivial ?_ rfl
  simp only [Tryz.ntmps106, List.size_toArray, List.length_cons, List.length_nil, Nat.reduceAdd, Nat.reduceSub, Array.replicate_succ, Array.replicate_zero, List.push_toArray, List.append_toArray, List.nil_append, List.cons_append]
  gi_wp2
  gi_loopw [3, 6] (fun _ i wr => ∃ (k : Nat) (pre : List (DX s.size)), k ≤ s.size ∧ i = .int .i64 (k : Int) ∧ pre.map (·.1) = digP s k ∧ J pre wr ∧ Kpt S W wr)
    (fun _ i _ => s.size - (intOf i).toNat)
  case atStart => exact ⟨0, [], Nat.zero_le _, rfl, by simp [digP], h0, Kpt.refl _ _⟩
  case round =>
    obtain ⟨k, pre, hk, rfl, hpre, hJs, hnx⟩ := hrel
    have HP := Lib.hid hpre
    clear hpre
    have hBs2 := (hnx.cell (p := ⟨Bs, 0, none⟩) hBn).trans hBs
    by_cases hlt : k < s.size
    · have e1 : IntKind.i64.wrap (IntKind.i64.wrap ((s.size : Int) - 1) - (k : Int)) = ((s.size - 1 - k : Nat) : Int) := by
        have e0 : IntKind.i64.wrap ((s.size : Int) - 1) = (s.size : Int) - 1 := IntWalk.i64_in _ (by omega)
        rw [e0, IntWalk.i64_in _ (by omega)]; omega
      have e2 : IntKind.u32.wrap (IntKind.u32.wrap (s[k].toNat : Int) - 48) = (dgt (byteAt s k) : Nat) := by
        have h1 : byteAt s k = s[k] := by simp [byteAt, hlt]; rfl
        rw [h1, ← wrap_dgt]
        have := s[k].toNat_lt
        rw [IntKind.wrap_u32 (s[k].toNat : Int)]
        congr 1
        omega
      obtain ⟨x, hx⟩ : ∃ x : DX s.size, x.1 = (s.size - 1 - k, dgt (byteAt s k)) := ⟨⟨(s.size - 1 - k, dgt (byteAt s k)), (show s.size - 1 - k < s.size by omega), dgt_lt _⟩, rfl⟩
      obtain ⟨fn, tmps, assign, body, hy, hR⟩ := HY.out pre x wr.drew (HDR.out pre wr hJs) (by have := congrArg List.length HP.out; simp [digP_length] at this; omega)
      rw [hx] at hy
      dsimp only at hy
      rw [← e1, ← e2] at hy
      have hR2 := hR.mono (R' := fun e W' => ∃ bv, e = .returned (.bool bv) ∧ ((bv = true ∧ J (pre ++ [x]) W' ∧ Kpt S wr.drew W') ∨ (bv = false ∧ Jx (pre ++ [x]) W'))) (by
        rintro e W' (⟨rfl, h⟩ | ⟨rfl, h⟩)
        · exact ⟨true, rfl, .inl ⟨rfl, h⟩⟩
        · exact ⟨false, rfl, .inr ⟨rfl, h⟩⟩)
      have HXx := Lib.hid hx
      clear e1 e2 hR hx
      gi_wp2
      gi_region_with_o (refine hR2.mono ?_; rintro e W3 ⟨bv, rfl, hpost⟩)
      all_goals
        clear hy hR2
        rcases hpost with ⟨rfl, hJ3, hk3⟩ | ⟨rfl, hJx3⟩
        · gi_wp2
          go_roundw
          case rel => exact ⟨k + 1, pre ++ [x], by omega, by go_num, by rw [List.map_append, HP.out, digP_succ, List.map_singleton, HXx.out], hJ3, hnx.trans ((show Kpt S wr wr.drew from ⟨Nat.le_refl _, fun _ _ => rfl⟩).trans hk3)⟩
          case measure => simp [intOf]; omega
        · gi_wp2
          refine bodyPost_ret (results_none rfl _ _ _) rfl ?_
          exact ⟨⟨_, rfl⟩, .inr ⟨_, ⟨k + 1, by omega, by rw [List.map_append, HP.out, digP_succ, List.map_singleton, HXx.out]⟩, hJx3⟩⟩
    · obtain rfl : k = s.size := by omega
      gi_wp2
      go_end0
      exact ⟨⟨_, rfl⟩, .inl ⟨pre, HP.out, hJs⟩⟩

set_option maxHeartbeats 1000000 in
theorem dig_in (n : Nat) (s : ByteArray) (w : World) :
    CallsIn Fence.wide n Tryz.prog 92 #[.string s] w fun e w' => e = .returned (.func (.func 106) #[] #[.pointer (some ⟨w.heap.size, 0, none⟩)]) ∧ w' = w.alloc (.cells #[.string s] 9) := by
  refine callsIn_of_wp Tryz.func92 rfl trivial ?_ rfl
  simp only [Tryz.ntmps92, List.size_toArray, List.length_cons, List.length_nil, Nat.reduceAdd, Nat.reduceSub, Array.replicate_succ, Array.replicate_zero, List.push_toArray, List.append_toArray, List.nil_append, List.cons_append]
  gi_wp2
  go_ret
  exact ⟨rfl, rfl⟩

theorem grown_drew (W : World) : W.grownBy W.drew none := ⟨rfl, rfl, rfl, Nat.le_refl _, fun _ _ _ => rfl⟩

/-- digits hands over the digits, the first one ahead, each with how many bytes stand behind it. -/
theorem dig_stops (n : Nat) (hn : 1 ≤ n) (Bs : Nat) (S : Nat → Prop) (s : ByteArray) (hl : s.size ≤ 1000) (w : World) (hBw : Bs < w.heap.size) (hBs : S Bs) (hc : w.cell? ⟨Bs, 0, none⟩ = some (.string s)) :
    SeqStopsK Fence.wide n Tryz.prog 106 #[.pointer (some ⟨Bs, 0, none⟩)] (fun x : DX s.size => #[Value.int .i64 (x.1.1 : Int), Value.int .u32 (x.1.2 : Int)]) (Kpt S) (fun ys => ys.map (·.1) = digP s s.size)
      (fun pre => ∃ k, k ≤ s.size ∧ pre.map (·.1) = digP s k) s.size w := fun l J Jx W hW hJ _ hY h0 =>
  dig1_in n hn l Bs S s hl hBs J Jx hY (fun pre X hX => hJ pre X _ none hX (grown_drew X) (fun r e => by cases e)) W ((hW.cell (p := ⟨Bs, 0, none⟩) hBw).trans hc) h0
end Go.Proofs.YtgcalhnfoakggaaGreatDoor
