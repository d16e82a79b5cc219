/- Slices of limbs in memory, as lists of numbers: plain facts, no walk. Plain facts on numbers written to the base 1000000000: no program. The walks of trim, limbAt and of cmp.Compare. slices.Backward over limbs, and the walk of compare. A row of limbs that a call made itself: block g of the heap, known whole. Plain facts on decimal digits: no program. -/
import Derived.Test.YtgcalhnfoakggaaGreatDoorR1
import Derived.WalkKit
import Derived.WalkSpells
import Derived.WalkLawsBesides
import Derived.Lib.Hide
import Derived.RangeFuncNested
import Derived.RangeFuncBound
import Derived.RangeFuncCalls
import Derived.RangeFuncLeaves
import Derived.RangeFuncBox
import Derived.Shelf.Abstract
import Derived.Shelf.RegionOpen
import Derived.OwnWalkIn
import Derived.TacticsInMore
import Derived.LoopNIn
import Derived.LoopIn
import Derived.Laws.CopyOwn
import Derived.Lib.ItoaMem
import Derived.Lib.Repeat

namespace Go.Proofs.YtgcalhnfoakggaaGreatDoor
open Go.RowKit

theorem lat_lt {L : List Nat} {j : Nat} (h : j < L.length) : lat L j = L[j] := by simp [lat, h]
theorem lat_ge {L : List Nat} {j : Nat} (h : L.length ≤ j) : lat L j = 0 := by simp [lat, List.getElem?_eq_none h]

theorem Lm.below {A B : World} {v : Value} {L : List Nat} (h : Lm A v L) (hb : Below A.heap.size A B) : Lm B v L := by
  rcases h with h | ⟨b, off, cap, rfl, hc, hlt, hcs⟩
  · exact .inl h
  · exact .inr ⟨b, off, cap, rfl, hc, Nat.lt_of_lt_of_le hlt hb.size, fun j hj => (hb.cell (p := ⟨b, off + j, none⟩) hlt).trans (hcs j hj)⟩

theorem Lm.shape {W : World} {v : Value} {L : List Nat} (h : Lm W v L) : ∃ a cap, v = .slice a L.length cap := by
  rcases h with ⟨rfl, rfl⟩ | ⟨b, off, cap, rfl, _⟩
  · exact ⟨none, 0, rfl⟩
  · exact ⟨_, _, rfl⟩

/-- A call hands back limbs; what lay there lies as it lay. -/
def RetLm (L : List Nat) (w : World) (e : Ending) (w' : World) : Prop := ∃ v, e = .returned v ∧ Lm w' v L ∧ Below w.heap.size w w'

/-- Without the noughts at the end. -/
def trimL (L : List Nat) : List Nat := (L.reverse.dropWhile (· == 0)).reverse

theorem trimL_snoc_zero (L : List Nat) : trimL (L ++ [0]) = trimL L := by simp [trimL]
theorem trimL_snoc_pos (L : List Nat) (x : Nat) (h : x ≠ 0) : trimL (L ++ [x]) = L ++ [x] := by simp [trimL, h]
theorem trimL_nil : trimL [] = [] := rfl
theorem trimL_take_zero (L : List Nat) (k : Nat) (hk : k < L.length) (h : lat L k = 0) : trimL (L.take (k + 1)) = trimL (L.take k) := by
  rw [List.take_succ_eq_append_getElem hk]
  have : L[k] = 0 := by rw [← lat_lt hk]; exact h
  rw [this, trimL_snoc_zero]
theorem trimL_take_pos (L : List Nat) (k : Nat) (hk : k < L.length) (h : lat L k ≠ 0) : trimL (L.take (k + 1)) = L.take (k + 1) := by
  rw [List.take_succ_eq_append_getElem hk]
  have : L[k] ≠ 0 := by rw [← lat_lt hk]; exact h
  exact trimL_snoc_pos _ _ this
end Go.Proofs.YtgcalhnfoakggaaGreatDoor

namespace Go.Proofs.YtgcalhnfoakggaaGreatDoor

theorem vt_congr {f g : Nat → Nat} {k : Nat} (h : ∀ j, j < k → f j = g j) : vt f k = vt g k := by
  induction k with
  | zero => rfl
  | succ k ih => rw [vt, vt, ih (fun j hj => h j (by omega)), h k (by omega)]

theorem vt_zero {f : Nat → Nat} {k m : Nat} (hkm : k ≤ m) (h : ∀ j, k ≤ j → j < m → f j = 0) : vt f m = vt f k := by
  induction m with
  | zero => obtain rfl : k = 0 := by omega
            rfl
  | succ m ih =>
    by_cases e : k = m + 1
    · subst e; rfl
    · rw [vt, ih (by omega) (fun j h1 h2 => h j h1 (by omega)), h m (by omega) (by omega)]; simp

theorem vt_lt {f : Nat → Nat} {k : Nat} (h : ∀ j, j < k → f j < 1000000000) : vt f k < 1000000000 ^ k := by
  induction k with
  | zero => simp [vt]
  | succ k ih =>
    have h1 := ih (fun j hj => h j (by omega))
    have h2 := h k (by omega)
    rw [vt, Nat.pow_succ]
    have h3 : (f k + 1) * 1000000000 ^ k ≤ 1000000000 * 1000000000 ^ k := Nat.mul_le_mul_right _ h2
    rw [Nat.add_mul] at h3
    omega

theorem vt_mono {f : Nat → Nat} {k m : Nat} (h : k ≤ m) : vt f k ≤ vt f m := by
  induction m with
  | zero => obtain rfl : k = 0 := by omega
            exact Nat.le_refl _
  | succ m ih =>
    by_cases e : k = m + 1
    · subst e; exact Nat.le_refl _
    · rw [vt]; have := ih (by omega); omega

theorem val_eq {L : List Nat} {k : Nat} (h : L.length ≤ k) : vt (lat L) k = val L := vt_zero h fun _ h1 _ => lat_ge h1

theorem val_lt {L : List Nat} (h : Bd L) : val L < 1000000000 ^ L.length := vt_lt fun j _ => h j

theorem val_ge {L : List Nat} (h : Nm L) (hne : L ≠ []) : 1000000000 ^ (L.length - 1) ≤ val L := by
  have hn : lat L (L.length - 1) ≠ 0 := by rcases h with h | h; exact absurd h hne; exact h
  have hl : 0 < L.length := List.length_pos_iff.2 hne
  rw [val, show L.length = L.length - 1 + 1 from by omega, vt, show L.length - 1 + 1 - 1 = L.length - 1 from by omega]
  have : 1 * 1000000000 ^ (L.length - 1) ≤ lat L (L.length - 1) * 1000000000 ^ (L.length - 1) := Nat.mul_le_mul_right _ (by omega)
  omega

theorem val_zero_iff {L : List Nat} (h : Nm L) : val L = 0 ↔ L = [] := by
  constructor
  · intro h0
    by_cases e : L = []
    · exact e
    · have := val_ge h e
      have : 0 < 1000000000 ^ (L.length - 1) := Nat.pow_pos (by omega)
      omega
  · rintro rfl; rfl

theorem val_lt_of_length {L M : List Nat} (hL : Bd L) (hM : Nm M) (h : L.length < M.length) : val L < val M := by
  have h1 := val_lt hL
  have h2 := val_ge hM (by intro e; subst e; simp at h)
  have h3 : 1000000000 ^ L.length ≤ 1000000000 ^ (M.length - 1) := Nat.pow_le_pow_right (by omega) (by omega)
  omega

/-- Where all above place i is one, place i decides. -/
theorem vt_lt_of_place {f g : Nat → Nat} {n i : Nat} (hi : i < n) (hf : ∀ j, f j < 1000000000) (h : f i < g i) (hab : ∀ j, i < j → j < n → f j = g j) : vt f n < vt g n := by
  induction n with
  | zero => omega
  | succ n ih =>
    rw [vt, vt]
    by_cases e : i = n
    · subst e
      have h1 := vt_lt (k := i) (fun j _ => hf j)
      have h2 : (f i + 1) * 1000000000 ^ i ≤ g i * 1000000000 ^ i := Nat.mul_le_mul_right _ h
      rw [Nat.add_mul] at h2
      omega
    · have := ih (by omega) (fun j h1 h2 => hab j h1 (by omega))
      rw [hab n (by omega) (by omega)]
      omega

theorem trimL_spec (L : List Nat) : ∃ k, k ≤ L.length ∧ trimL L = L.take k ∧ (∀ j, k ≤ j → lat L j = 0) ∧ (k = 0 ∨ lat L (k - 1) ≠ 0) := by
  have key : ∀ n, n ≤ L.length → (∀ j, n ≤ j → lat L j = 0) → ∃ k, k ≤ L.length ∧ trimL (L.take n) = L.take k ∧ (∀ j, k ≤ j → lat L j = 0) ∧ (k = 0 ∨ lat L (k - 1) ≠ 0) := by
    intro n
    induction n with
    | zero => intro h h0; exact ⟨0, by omega, by simp [trimL], h0, .inl rfl⟩
    | succ n ih =>
      intro h h0
      by_cases hz : lat L n = 0
      · rw [trimL_take_zero L n (by omega) hz]
        exact ih (by omega) (fun j hj => by by_cases e : j = n; (subst e; exact hz); exact h0 j (by omega))
      · exact ⟨n + 1, h, trimL_take_pos L n (by omega) hz, h0, .inr (by simpa using hz)⟩
  obtain ⟨k, h⟩ := key L.length (Nat.le_refl _) (fun j hj => lat_ge hj)
  rw [List.take_length] at h
  exact ⟨k, h⟩

theorem lat_take {L : List Nat} {k j : Nat} (h : j < k) : lat (L.take k) j = lat L j := by simp [lat, List.getElem?_take_of_lt h]

theorem val_trim (L : List Nat) : val (trimL L) = val L := by
  obtain ⟨k, hk, h1, h2, _⟩ := trimL_spec L
  rw [h1, val, List.length_take, Nat.min_eq_left hk, val, vt_zero hk (fun j h _ => h2 j h)]
  exact vt_congr fun j hj => lat_take hj

theorem nm_trim (L : List Nat) : Nm (trimL L) := by
  obtain ⟨k, hk, h1, _, h3⟩ := trimL_spec L
  rw [h1, Nm, List.length_take, Nat.min_eq_left hk]
  rcases h3 with rfl | h3
  · exact .inl (by simp)
  · by_cases e : k = 0
    · subst e; exact .inl (by simp)
    · right; rw [lat_take (by omega)]; exact h3

theorem bd_trim {L : List Nat} (h : Bd L) : Bd (trimL L) := by
  obtain ⟨k, hk, h1, _, _⟩ := trimL_spec L
  intro j
  rw [h1]
  by_cases e : j < k
  · rw [lat_take e]; exact h j
  · rw [lat_ge (by rw [List.length_take]; omega)]; omega

theorem length_trim (L : List Nat) : (trimL L).length ≤ L.length := by
  obtain ⟨k, hk, h1, _, _⟩ := trimL_spec L
  rw [h1, List.length_take]; omega
/-- The first k of what Backward hands over. -/
def backP (L : List Nat) (k : Nat) : List (Nat × Nat) := (List.range k).map fun t => (L.length - 1 - t, lat L (L.length - 1 - t))
theorem backP_succ (L : List Nat) (k : Nat) : backP L (k + 1) = backP L k ++ [(L.length - 1 - k, lat L (L.length - 1 - k))] := by simp [backP, List.range_succ]
theorem backP_length (L : List Nat) (k : Nat) : (backP L k).length = k := by simp [backP]

end Go.Proofs.YtgcalhnfoakggaaGreatDoor

namespace Go.Proofs.YtgcalhnfoakggaaGreatDoor
open Go.RowKit

theorem trim_end {L : List Nat} {w : World} {b off k : Nat} (hk : k ≤ L.length) (hb : b < w.heap.size)
    (hc : ∀ j, j < L.length → w.cell? ⟨b, off + j, none⟩ = some (.int .u32 (lat L j : Nat))) (h : trimL L = L.take k) (c : Nat) (hc' : k ≤ c) :
    RetLm (trimL L) w (.returned (.slice (some ⟨b, off, none⟩) k c)) w := by
  refine ⟨_, rfl, .inr ⟨b, off, c, ?_, ?_, hb, ?_⟩, Below.refl _ _⟩
  · rw [h, List.length_take, Nat.min_eq_left hk]
  · rw [h, List.length_take, Nat.min_eq_left hk]; exact hc'
  · intro j hj
    rw [h, List.length_take, Nat.min_eq_left hk] at hj
    rw [h, show lat (L.take k) j = lat L j from by simp [lat, List.getElem?_take_of_lt hj]]
    exact hc j (by omega)

set_option maxHeartbeats 400000 in
theorem trim_some (L : List Nat) (w : World) (b off cap : Nat) (hl : L.length ≤ 1000) (hcap : L.length ≤ cap) (hb : b < w.heap.size)
    (hc : ∀ j, j < L.length → w.cell? ⟨b, off + j, none⟩ = some (.int .u32 (lat L j : Nat))) :
    Calls Tryz.prog 81 #[.slice (some ⟨b, off, none⟩) L.length cap] w (RetLm (trimL L) w) := by
  have HC := Lib.hid hc
  clear hc
  go_enter Tryz.func81, Tryz.ntmps81
  go_wp2
  go_loop [3] (fun n => ∃ k : Nat, k ≤ L.length ∧ n = .int .i64 k ∧ trimL (L.take k) = trimL L) (fun n => (intOf n).toNat)
  case atStart => exact ⟨L.length, Nat.le_refl _, rfl, by simp⟩
  case round =>
    obtain ⟨k, hk, rfl, ht⟩ := hrel
    have HT := Lib.hid ht
    clear ht
    rcases k with _ | k
    · go_wp2
      go_ret
      exact trim_end (Nat.zero_le _) hb HC.out (by rw [← HT.out]; rfl) 0 (Nat.le_refl _)
    · have hc1 := HC.out k (by omega)
      by_cases hz : lat L k = 0
      · have HZ := Lib.hid hz
        rw [hz] at hc1
        clear hz
        go_wp2
        go_round
        case rel => exact ⟨k, by omega, by go_num, by rw [← HT.out, trimL_take_zero L k (by omega) HZ.out]⟩
        case measure => simp [intOf]
      · have HZ := Lib.hid hz
        have hz1 : ((lat L k : Nat) == (0 : Int)) = false := by simpa using hz
        clear hz
        go_wp2
        go_ret
        exact trim_end hk hb HC.out (by rw [← HT.out]; exact trimL_take_pos L k (by omega) HZ.out) (k + 1) (Nat.le_refl _)

set_option maxHeartbeats 400000 in
theorem trim_nil (w : World) : Calls Tryz.prog 81 #[.slice none 0 0] w (RetLm [] w) := by
  go_enter Tryz.func81, Tryz.ntmps81
  go_wp2
  go_loop [3] (fun n => n = .int .i64 0) (fun n => (intOf n).toNat)
  case atStart => rfl
  case round =>
    subst hrel
    go_wp2
    go_ret
    exact ⟨_, rfl, .inl ⟨rfl, rfl⟩, Below.refl _ _⟩

theorem trim_calls (v : Value) (L : List Nat) (w : World) (hl : L.length ≤ 1000) (h : Lm w v L) : Calls Tryz.prog 81 #[v] w (RetLm (trimL L) w) := by
  rcases h with ⟨rfl, rfl⟩ | ⟨b, off, cap, rfl, hcap, hb, hc⟩
  · exact trim_nil w
  · exact trim_some L w b off cap hl hcap hb hc

end Go.Proofs.YtgcalhnfoakggaaGreatDoor

namespace Go.Proofs.YtgcalhnfoakggaaGreatDoor
open Go.RowKit Go.Shelf

attribute [local go_sem] Oper.semAt_some

/-- A place of L and what stands there. -/
abbrev LX (L : List Nat) := { x : Nat × Nat // x.1 < L.length ∧ x.2 = lat L x.1 }
/-- The blocks of S lie as they lay. -/
def Kpt (S : Nat → Prop) (A B : World) : Prop := A.heap.size ≤ B.heap.size ∧ ∀ k, S k → B.heap[k]? = A.heap[k]?
theorem Kpt.refl (S : Nat → Prop) (A : World) : Kpt S A A := ⟨Nat.le_refl _, fun _ _ => rfl⟩
theorem Kpt.trans {S : Nat → Prop} {A B C : World} (h : Kpt S A B) (k : Kpt S B C) : Kpt S A C := ⟨Nat.le_trans h.1 k.1, fun i hi => (k.2 i hi).trans (h.2 i hi)⟩
theorem Kpt.cell {S : Nat → Prop} {A B : World} (h : Kpt S A B) {p : Addr} (hp : S p.block) : B.cell? p = A.cell? p := World.cell?_of_block (w := A) (h.2 p.block hp)
theorem Kpt.book {S : Nat → Prop} {w : World} (hS : ∀ k, S k → k < w.heap.size) (W : World) (l : Nat) (o o' : Obj) (hl : w.heap.size ≤ l) (_ : W.heap[l]? = some o) (_ : o.isCells = false) (_ : o.isWalk = false) : Kpt S W (W.putObj l o') :=
  ⟨by simp [World.putObj], fun k hk => World.putObj_heap_other (by have := hS k hk; omega)⟩

set_option maxRecDepth 100000 in
set_option maxHeartbeats 2000000 in
theorem back1_in (n : Nat) (hn : 1 ≤ n) (l Bs b off cap : Nat) (S : Nat → Prop) (L : List Nat) (hl : L.length ≤ 1000) (hb : S b) (hBn : S Bs) (J Jx : List (LX L) → World → Prop)
    (hY : ∀ pre x W, J pre W → pre.length < L.length → YieldAt Fence.wide (n - 1) Tryz.prog l #[.int .i64 (x.1.1 : Int), .int .u32 (x.1.2 : Int)] W fun e W' =>
      (e = .returned (.bool true) ∧ J (pre ++ [x]) W' ∧ Kpt S W W') ∨ (e = .returned (.bool false) ∧ Jx (pre ++ [x]) W'))
    (W : World) (hBs : W.cell? ⟨Bs, 0, none⟩ = some (.slice (some ⟨b, off, none⟩) L.length cap)) (hc : ∀ j, j < L.length → W.cell? ⟨b, off + j, none⟩ = some (.int .u32 (lat L j : Nat))) (h0 : J [] W) :
    CallsIn Fence.wide n Tryz.prog 96 #[.func (.yield l) #[] #[], .pointer (some ⟨Bs, 0, none⟩)] W fun e W' => (∃ v, e = .returned v) ∧
      ((∃ ys, ys.map (·.1) = backP L L.length ∧ J ys W') ∨ (∃ pre, (∃ k, k ≤ L.length ∧ pre.map (·.1) = backP L k) ∧ Jx pre W')) := by
  have HC := Lib.hid hc
  have HY := Lib.hid hY
  clear hc hY
  refine callsIn_of_wp Tryz.func96 rfl trivial ?_ rfl
  simp only [Tryz.ntmps96, List.size_toArray, List.length_cons, List.length_nil, Nat.reduceAdd, Nat.reduceSub, Array.replicate_succ, Array.replicate_zero, List.push_toArray, List.append_toArray, List.nil_append, List.cons_append]
  gi_wp2
  gi_loopw [3] (fun i wr => ∃ (m : Nat) (pre : List (LX L)), m ≤ L.length ∧ i = .int .i64 ((m : Int) - 1) ∧ pre.map (·.1) = backP L (L.length - m) ∧ J pre wr ∧ Kpt S W wr)
    (fun i _ => (intOf i + 1).toNat)
  case atStart => exact ⟨L.length, [], Nat.le_refl _, rfl, by simp [backP], h0, Kpt.refl _ _⟩
  case round =>
    obtain ⟨m, pre, hm, rfl, hpre, hJs, hnx⟩ := hrel
    have HP := Lib.hid hpre
    clear hpre
    have hBs2 := (hnx.cell (p := ⟨Bs, 0, none⟩) hBn).trans hBs
    rcases m with _ | m
    · gi_wp2
      go_end0
      exact ⟨⟨_, rfl⟩, .inl ⟨pre, by rw [HP.out]; simp, hJs⟩⟩
    · have e1 : ((m + 1 : Nat) : Int) - 1 = (m : Int) := by omega
      rw [e1]
      clear e1
      have hcx : wr.cell? ⟨b, off + m, none⟩ = some (.int .u32 (lat L m : Nat)) := (hnx.cell (p := ⟨b, off + m, none⟩) hb).trans (HC.out m (by omega))
      obtain ⟨fn, tmps, assign, body, hy, hR⟩ := HY.out pre ⟨(m, lat L m), by omega, rfl⟩ wr hJs (by have := congrArg List.length HP.out; simp [backP_length] at this; omega)
      dsimp only at hy
      gi_wp2
      refine hR.mono ?_
      rintro e W3 (⟨rfl, hJ3, hk3⟩ | ⟨rfl, hJx3⟩)
      · gi_wp2
        go_roundw
        case rel => exact ⟨m, pre ++ [⟨(m, lat L m), by omega, rfl⟩], by omega, by go_num, by rw [List.map_append, HP.out, show L.length - m = L.length - (m + 1) + 1 from by omega, backP_succ, show L.length - 1 - (L.length - (m + 1)) = m from by omega]; rfl, hJ3, hnx.trans hk3⟩
        case measure => simp [intOf]
      · gi_wp2
        refine bodyPost_ret (results_none rfl _ _ _) rfl ?_
        exact ⟨⟨_, rfl⟩, .inr ⟨_, ⟨L.length - m, by omega, by rw [List.map_append, HP.out, show L.length - m = L.length - (m + 1) + 1 from by omega, backP_succ, show L.length - 1 - (L.length - (m + 1)) = m from by omega]; rfl⟩, hJx3⟩⟩

set_option maxRecDepth 100000 in
set_option maxHeartbeats 1000000 in
theorem back1_nil_in (n : Nat) (l Bs : Nat) (J : List (LX []) → World → Prop) (W : World) (hBs : W.cell? ⟨Bs, 0, none⟩ = some (.slice none 0 0)) (h0 : J [] W) :
    CallsIn Fence.wide n Tryz.prog 96 #[.func (.yield l) #[] #[], .pointer (some ⟨Bs, 0, none⟩)] W fun e W' => (∃ v, e = .returned v) ∧ J [] W' := by
  refine callsIn_of_wp Tryz.func96 rfl trivial ?_ rfl
  simp only [Tryz.ntmps96, List.size_toArray, List.length_cons, List.length_nil, Nat.reduceAdd, Nat.reduceSub, Array.replicate_succ, Array.replicate_zero, List.push_toArray, List.append_toArray, List.nil_append, List.cons_append]
  gi_wp2
  gi_loopw [3] (fun i wr => i = .int .i64 (-1) ∧ J [] wr) (fun _ _ => 0)
  case atStart => exact ⟨rfl, h0⟩
  case round =>
    obtain ⟨rfl, hJs⟩ := hrel
    gi_wp2
    go_end0
    exact ⟨⟨_, rfl⟩, hJs⟩

set_option maxHeartbeats 1000000 in
theorem back_in (n : Nat) (v : Value) (w : World) (a : Option Addr) (len cap : Nat) (hv : v = .slice a len cap) :
    CallsIn Fence.wide n Tryz.prog 82 #[v] w fun e w' => e = .returned (.func (.func 96) #[] #[.pointer (some ⟨w.heap.size, 0, none⟩)]) ∧ w' = w.alloc (.cells #[v] 96) := by
  subst hv
  refine callsIn_of_wp Tryz.func82 rfl trivial ?_ rfl
  simp only [Tryz.ntmps82, List.size_toArray, List.length_cons, List.length_nil, Nat.reduceAdd, Nat.reduceSub, Array.replicate_succ, Array.replicate_zero, List.push_toArray, List.append_toArray, List.nil_append, List.cons_append]
  gi_wp2
  go_ret
  exact ⟨rfl, rfl⟩

/-- slices.Backward hands over the places from the last one on. S: blocks that do not turn while the loop runs. -/
theorem back_stops (n : Nat) (hn : 1 ≤ n) (Bs : Nat) (S : Nat → Prop) (v : Value) (L : List Nat) (hl : L.length ≤ 1000) (w : World) (hBw : Bs < w.heap.size) (hBs : S Bs)
    (hc : w.cell? ⟨Bs, 0, none⟩ = some v) (hI : Lm w v L) (hlt : ∀ b off len cap, v = .slice (some ⟨b, off, none⟩) len cap → S b) :
    SeqStopsK Fence.wide n Tryz.prog 96 #[.pointer (some ⟨Bs, 0, none⟩)] (fun x : LX L => #[Value.int .i64 (x.1.1 : Int), Value.int .u32 (x.1.2 : Int)]) (Kpt S) (fun ys => ys.map (·.1) = backP L L.length)
      (fun pre => ∃ k, k ≤ L.length ∧ pre.map (·.1) = backP L k) L.length w := fun l J Jx W hW _ _ hY h0 => by
  have hc' := (hW.cell (p := ⟨Bs, 0, none⟩) hBw).trans hc
  rcases hI.below hW with ⟨rfl, rfl⟩ | ⟨b, off, cap, rfl, _, _, hcs⟩
  · exact (back1_nil_in n l Bs J W hc' h0).mono fun e W' ⟨he, hj⟩ => ⟨he, .inl ⟨_, rfl, hj⟩⟩
  · exact back1_in n hn l Bs b off cap S L hl (hlt _ _ _ _ rfl) hBs J Jx hY W hc' hcs h0
end Go.Proofs.YtgcalhnfoakggaaGreatDoor

namespace Go.Proofs.YtgcalhnfoakggaaGreatDoor
open Go.RowKit

def mapv (L : List Nat) : List Value := L.map fun n : Nat => Value.int .u32 (n : Int)
theorem mapv_length (L : List Nat) : (mapv L).length = L.length := by simp [mapv]
theorem mapv_get {L : List Nat} {j : Nat} (h : j < L.length) : (mapv L)[j]? = some (.int .u32 (lat L j : Nat)) := by simp [mapv, lat, h]
/-- Block g holds just the limbs L. -/
def Row (W : World) (g : Nat) (L : List Nat) : Prop := W.heap[g]? = some (.cells (mapv L).toArray 68 (0, 0))

theorem Row.lt {W : World} {g : Nat} {L : List Nat} (h : Row W g L) : g < W.heap.size := (Array.getElem?_eq_some_iff.1 h).1
theorem Row.cell {W : World} {g : Nat} {L : List Nat} (h : Row W g L) {j : Nat} (hj : j < L.length) : W.cell? ⟨g, j, none⟩ = some (.int .u32 (lat L j : Nat)) := by
  simp only [World.cell?, show W.heap[g]? = _ from h]
  simpa using mapv_get hj
theorem Row.frozen {W : World} {g : Nat} {L : List Nat} (h : Row W g L) (j : Nat) : W.frozen? ⟨g, j, none⟩ = false := by
  simp [World.frozen?, show W.heap[g]? = _ from h]
theorem Row.set {W : World} {g : Nat} {L : List Nat} (h : Row W g L) (j v : Nat) : Row (W.setCell ⟨g, j, none⟩ (.int .u32 (v : Int))) g (L.set j v) := by
  obtain ⟨hlt, hk⟩ := Array.getElem?_eq_some_iff.1 h
  show (W.heap.modify g _)[g]? = _
  rw [Array.getElem?_eq_getElem (by rw [Array.size_modify]; exact hlt), Array.getElem_modify_self, hk]
  simp [mapv, List.map_set]
theorem Row.setI {W : World} {g : Nat} {L : List Nat} (h : Row W g L) (j : Nat) {x : Int} (v : Nat) (e : x = (v : Int)) : Row (W.setCell ⟨g, j, none⟩ (.int .u32 x)) g (L.set j v) := by subst e; exact h.set j v
theorem Row.kept {W W' : World} {g : Nat} {L : List Nat} (h : Row W g L) (e : W'.heap[g]? = W.heap[g]?) : Row W' g L := e.trans h
theorem Row.below {W W' : World} {g : Nat} {L : List Nat} (h : Row W g L) (hb : Below W.heap.size W W') : Row W' g L := h.kept (hb.block g h.lt)
theorem Row.lm {W : World} {g : Nat} {L : List Nat} (h : Row W g L) {cap : Nat} (hc : L.length ≤ cap) : Lm W (.slice (some ⟨g, 0, none⟩) L.length cap) L :=
  .inr ⟨g, 0, cap, rfl, hc, h.lt, fun j hj => by rw [Nat.zero_add]; exact h.cell hj⟩

theorem lat_set_same {L : List Nat} {j v : Nat} (h : j < L.length) : lat (L.set j v) j = v := by simp [lat, h]
theorem lat_set_other {L : List Nat} {j k v : Nat} (h : j ≠ k) : lat (L.set j v) k = lat L k := by simp [lat, List.getElem?_set_ne h]

theorem info31 : (Tryz.prog.info? 68).map (fun i => (i.zero, i.size, i.bytes)) = some (some (.int .u32 0), 1, 4) := by kernel_rfl
theorem size31 : (Tryz.prog.info? 68).map (·.size) = some 1 := by kernel_rfl

theorem made_eq (n : Nat) : (madeCells #[Value.int .u32 0] n).toList = mapv (List.replicate n 0) := by
  apply List.ext_getElem
  · simp [madeCells, mapv]
  · intro i h1 h2; simp [madeCells, mapv, Nat.mod_one]

theorem make_limbs {w : World} {ops : Array Oper} {rest : List Oper} {o : Oper} {a : Act} {Q : Exit → Act → World → Prop} (hg : o.guard = none) (l c : Operand) (hop : o.op = Op.makeSlice 96 l c) (C : Int) (n : Nat)
    (hl : a.eval l = .int .i64 C) (hc : a.eval c = .int .i64 C) (hC : C = (n : Int)) (hn : n ≤ 100000)
    (hK : ∀ w', Hid (Row w' w.heap.size (List.replicate n 0)) → Below w.heap.size w w' → w.heap.size < w'.heap.size → wpList Tryz.prog ops Q rest (a.put o.dst (.slice (some ⟨w.heap.size, 0, none⟩) n n)) w') :
    wpList Tryz.prog ops Q (o :: rest) a w := by
  obtain ⟨i0, hi, hz0, hz1, hz2⟩ := info_parts info31
  refine wpList_make_full w hg l c 96 hop w.heap.size 68 i0 (.int .u32 0) 1 Tryz.underlying96 hi hz0 hz1 .i64 .i64 C C n hl hc hC hC (by rw [hz2]; omega) (by unfold maxLen; omega) (Nat.le_refl _) ?_
  intro w' hown hgr
  have hrow : Row w' w.heap.size (List.replicate n 0) := by
    rcases hown.2 with ⟨e, _⟩ | ⟨g, cap, cur, e, _, hh, _, _, hs, ht⟩
    · cases e
    · cases e
      rw [show (Value.int IntKind.u32 0).cells = #[.int .u32 0] from rfl, Nat.mul_one, made_eq] at ht
      rw [List.take_of_length_le (by simp [hs])] at ht
      rw [Row, hh, ← ht]
  exact hK w' hrow ((Below.refl _ _).grown hgr (Nat.le_refl _) (fun k e => by cases e)) hrow.lt

theorem splice_mapv (S L : List Nat) : splice (mapv S) 0 (mapv L) = mapv (L ++ S.drop L.length) := by simp [splice, mapv]

theorem copy_limbs {w : World} {ops : Array Oper} {rest : List Oper} {o : Oper} {a : Act} {Q : Exit → Act → World → Prop} (hg : o.guard = none) (d s : Operand)
    (ho : o.op = .call { callee := .builtin .copy, args := #[d, s], argTypes := #[96, 96] }) (g cap : Nat) (S L : List Nat) (vx : Value) (n : Nat) (hn : n = S.length)
    (hd : a.eval d = .slice (some ⟨g, 0, none⟩) n cap) (hs : a.eval s = vx) (hx : Lm w vx L) (hrow : Row w g S) (hle : L.length ≤ S.length) (B : Nat) (w0 : World) (hb : Below B w0 w) (hBg : B ≤ g)
    (h : ∀ w', Hid (Row w' g (L ++ S.drop L.length)) → Below B w0 w' → wpList Tryz.prog ops Q rest (a.put o.dst (goInt L.length)) w') : wpList Tryz.prog ops Q (o :: rest) a w := by
  subst hn
  have key : ∀ (sp : Option Addr) (sCap : Nat), vx = .slice sp L.length sCap → (0 < L.length → ∃ ad, sp = some ad ∧ ∀ j v, (mapv L)[j]? = some v → w.cell? (ad.add j) = some v) → wpList Tryz.prog ops Q (o :: rest) a w := by
    intro sp sCap e hsrc
    refine wpList_copy_splice hg d s 96 96 ho 68 Tryz.underlying96 size31 (some ⟨g, 0, none⟩) sp S.length cap L.length sCap hd (by rw [hs, e]) g 0 (mapv S) 68 hrow (mapv L) (by rw [mapv_length]; exact (Nat.min_eq_left hle).symm) (fun hp => ⟨rfl, hsrc (by simpa [mapv] using hp)⟩) (by simpa [mapv] using hle) (by intro v hv; simp only [mapv, List.mem_map] at hv; obtain ⟨n, _, rfl⟩ := hv; rfl) B w0 hb hBg ?_
    intro w' hr hbb
    have hr' := hr.out
    rw [splice_mapv] at hr'
    rw [mapv_length]
    exact h w' hr' hbb
  rcases hx with ⟨rfl, rfl⟩ | ⟨b, off, cap', rfl, _, _, hc⟩
  · exact key none 0 rfl (fun h => by simp at h)
  · refine key (some ⟨b, off, none⟩) cap' rfl (fun _ => ⟨_, rfl, fun j v hv => ?_⟩)
    have hj : j < L.length := by have := (List.getElem?_eq_some_iff.1 hv).1; rwa [mapv_length] at this
    rw [mapv_get hj] at hv
    cases hv
    rw [Lib.add_plain]
    exact hc j hj
end Go.Proofs.YtgcalhnfoakggaaGreatDoor

namespace Go.Proofs.YtgcalhnfoakggaaGreatDoor
open Go.Lib (decDigits nDigits nDigits_small nDigits_big nDigits_pos lt_pow_nDigits decDigits_length repeatL)

theorem digs_length (k n : Nat) : (digs k n).length = k := by
  induction k generalizing n with
  | zero => rfl
  | succ k ih => simp [digs, ih]

theorem digs_add (k m n : Nat) : digs (k + m) n = digs k (n / 10 ^ m) ++ digs m n := by
  induction m generalizing n with
  | zero => simp [digs]
  | succ m ih =>
    rw [← Nat.add_assoc, digs, ih, digs, Nat.pow_succ, Nat.mul_comm (10 ^ m) 10, ← Nat.div_div_eq_div_mul, List.append_assoc]

theorem digs_mod (m n : Nat) : digs m (n % 10 ^ m) = digs m n := by
  induction m generalizing n with
  | zero => rfl
  | succ m ih =>
    rw [digs, digs]
    have h1 : n % 10 ^ (m + 1) / 10 = n / 10 % 10 ^ m := by rw [Nat.pow_succ, Nat.mul_comm, Nat.mod_mul_right_div_self]
    have h2 : n % 10 ^ (m + 1) % 10 = n % 10 := by rw [Nat.pow_succ, Nat.mul_comm]; exact Nat.mod_mul_right_mod _ _ _
    rw [h1, h2, ih]

theorem digs_zero (k : Nat) : digs k 0 = List.replicate k 48 := by
  induction k with
  | zero => rfl
  | succ k ih => rw [digs, Nat.zero_div, ih]; simp [List.replicate_succ']

theorem nDigits_add {a b m : Nat} (ha : 0 < a) (hb : b < 10 ^ m) : nDigits (a * 10 ^ m + b) = nDigits a + m := by
  induction m generalizing b with
  | zero => simp at hb; subst hb; simp
  | succ m ih =>
    have hp : 0 < 10 ^ m := Nat.pow_pos (by omega)
    have h1 : (a * 10 ^ (m + 1) + b) / 10 = a * 10 ^ m + b / 10 := by rw [Nat.pow_succ, ← Nat.mul_assoc]; omega
    have h2 : ¬ a * 10 ^ (m + 1) + b < 10 := by
      have : 1 * 10 ^ m ≤ a * 10 ^ m := Nat.mul_le_mul_right _ ha
      rw [Nat.pow_succ, ← Nat.mul_assoc]; omega
    rw [nDigits_big h2, h1, ih (by rw [Nat.pow_succ] at hb; omega), Nat.add_assoc]

theorem dec_add {a b m : Nat} (ha : 0 < a) (hb : b < 10 ^ m) : decDigits (a * 10 ^ m + b) = decDigits a ++ digs m b := by
  have hp : 0 < 10 ^ m := Nat.pow_pos (by omega)
  rw [dec_digs, nDigits_add ha hb, digs_add, dec_digs a]
  congr 1
  · rw [Nat.mul_comm, Nat.mul_add_div hp, Nat.div_eq_of_lt hb, Nat.add_zero]
  · rw [← digs_mod m (a * 10 ^ m + b), Nat.mul_comm, Nat.mul_add_mod, Nat.mod_eq_of_lt hb]

theorem pad_digs {k n : Nat} (hk : 1 ≤ k) (h : n < 10 ^ k) : repeatL [48] (k - (decDigits n).length) ++ decDigits n = digs k n := by
  have h1 := nDigits_le hk h
  rw [decDigits_length, show digs k n = digs (k - nDigits n + nDigits n) n from by rw [Nat.sub_add_cancel h1], digs_add, Nat.div_eq_of_lt (lt_pow_nDigits n), digs_zero, ← dec_digs]
  congr 1
  have := Go.Lib.repeatL_replicate 48 1 (k - nDigits n)
  simpa using this

/-- What tell writes of one limb. -/
def txt1 (top : Nat) (x : Nat × Nat) : List UInt8 := if x.1 < top then repeatL [48] (9 - (decDigits x.2).length) ++ decDigits x.2 else decDigits x.2
def txt (top : Nat) (l : List (Nat × Nat)) : List UInt8 := (l.map (txt1 top)).flatten
theorem txt_snoc (top : Nat) (l : List (Nat × Nat)) (x : Nat × Nat) : txt top (l ++ [x]) = txt top l ++ txt1 top x := by simp [txt]

theorem txt1_le {top : Nat} {x : Nat × Nat} (h : x.2 < 1000000000) : (txt1 top x).length ≤ 9 := by
  have h1 : nDigits x.2 ≤ 9 := nDigits_le (by omega) h
  rw [txt1]
  split
  · rw [pad_digs (k := 9) (by omega) h, digs_length]; omega
  · rw [decDigits_length]; exact h1

theorem vt_shift (f : Nat → Nat) (k : Nat) : vt f (k + 1) = f 0 + 1000000000 * vt (fun j => f (j + 1)) k := by
  induction k with
  | zero => simp [vt]
  | succ k ih =>
    rw [vt, ih, show vt (fun j => f (j + 1)) (k + 1) = vt (fun j => f (j + 1)) k + f (k + 1) * 1000000000 ^ k from rfl, Nat.pow_succ, Nat.mul_add, Nat.add_assoc]
    congr 2
    rw [← Nat.mul_assoc, Nat.mul_comm]

theorem hv_succ {L : List Nat} {k : Nat} (h : k < L.length) : hv L (k + 1) = hv L k * 1000000000 + lat L (L.length - 1 - k) := by
  rw [hv, vt_shift, hv, Nat.add_zero, show L.length - (k + 1) = L.length - 1 - k from by omega, Nat.mul_comm, Nat.add_comm]
  congr 2
  apply vt_congr
  intro j _
  congr 1
  omega
theorem hv_pos {L : List Nat} (nm : Nm L) {k : Nat} (h1 : 1 ≤ k) (h : k ≤ L.length) : 0 < hv L k := by
  induction k with
  | zero => omega
  | succ k ih =>
    rw [hv_succ h]
    cases k with
    | zero =>
      have : lat L (L.length - 1) ≠ 0 := by rcases nm with e | e; (subst e; simp at h); exact e
      simp only [Nat.sub_zero]
      omega
    | succ k => have := ih (by omega) (by omega); omega

theorem txt_back {L : List Nat} (bd : Bd L) (nm : Nm L) {k : Nat} (h1 : 1 ≤ k) (h : k ≤ L.length) : txt (L.length - 1) (backP L k) = decDigits (hv L k) := by
  induction k with
  | zero => omega
  | succ k ih =>
    rw [backP_succ, txt_snoc, hv_succ h]
    cases k with
    | zero => simp [backP, txt, txt1, hv, vt]
    | succ k =>
      rw [ih (by omega) (by omega), txt1, if_pos (by simp only; omega), pad_digs (k := 9) (by omega) (bd _)]
      exact (dec_add (m := 9) (hv_pos nm (by omega) (by omega)) (bd _)).symm
theorem hv_all (L : List Nat) : hv L L.length = val L := by simp [hv, val]

end Go.Proofs.YtgcalhnfoakggaaGreatDoor
