/- A reader's binary digits: put, take, fill. -/
import Derived.Test.YtfmhpeeecejpbaaBa
import Derived.Deep.QuietTactic
import Derived.BigQuiet
import Derived.RangeFuncNested
import Derived.RangeFuncBound
import Derived.RangeFuncCalls
import Derived.RangeFuncLeaves
import Derived.RangeFuncBox
import Derived.Shelf.Abstract
import Derived.Shelf.RegionOpen
import Derived.OwnWalkIn
import Derived.TacticsInMore
import Derived.LoopNIn
import Derived.LoopIn
import Derived.Laws.BitsLemmas
namespace Go.Proofs.Ytfmhpeeecejpbaa
open Go.RowKit

theorem u32_fit (n : Int) (h₀ : 0 ≤ n) (h₁ : n < 2 ^ 31) : IntKind.u32.wrap n = n := by rw [IntKind.wrap_u32]; omega

theorem or_u32 (H wd n : Nat) (hn : n < 2 ^ wd) (hb : H * 2 ^ wd + n < 2 ^ 31) : bits .or .u32 ((H : Int) * 2 ^ wd % 4294967296) (n : Int) = ((H * 2 ^ wd + n : Nat) : Int) := by
  have e : ((H : Int) * 2 ^ wd % 4294967296) = ((H * 2 ^ wd : Nat) : Int) := by
    have : ((H : Int) * 2 ^ wd) = ((H * 2 ^ wd : Nat) : Int) := by push_cast; rfl
    rw [this]; omega
  rw [e, (bits_nat .u32 31 (by decide) u32_fit (H * 2 ^ wd) n (by omega) (by omega)).2, Nat.mul_comm, ← Nat.two_pow_add_eq_or_of_lt hn]

theorem and_u32 (H k : Nat) (hk : k ≤ 31) (hb : H < 2 ^ 31) : bits .and .u32 (H : Int) (2 ^ k - 1) = ((H % 2 ^ k : Nat) : Int) := by
  rw [bits_mask .u32 31 (by decide) u32_fit k hk (H : Int) (by omega) (by omega)]
  push_cast; rfl

/-- A reader in memory: what it holds, how many digits, from which width, to which. -/
def Rdr (W : World) (B f t H c : Nat) : Prop := W.heap[B]? = some (.cells #[.int .u32 (H : Int), .int .u64 (c : Int), .int .u64 (f : Int), .int .u64 (t : Int)] 41 (0, 0))
theorem Rdr.lt {W : World} {B f t H c : Nat} (h : Rdr W B f t H c) : B < W.heap.size := (Array.getElem?_eq_some_iff.1 h).1
theorem Rdr.held {W : World} {B f t H c : Nat} (h : Rdr W B f t H c) : W.cell? ⟨B, 0, none⟩ = some (.int .u32 (H : Int)) := by simp [World.cell?, show W.heap[B]? = _ from h]
theorem Rdr.count {W : World} {B f t H c : Nat} (h : Rdr W B f t H c) : W.cell? ⟨B, 1, none⟩ = some (.int .u64 (c : Int)) := by simp [World.cell?, show W.heap[B]? = _ from h]
theorem Rdr.from_ {W : World} {B f t H c : Nat} (h : Rdr W B f t H c) : W.cell? ⟨B, 2, none⟩ = some (.int .u64 (f : Int)) := by simp [World.cell?, show W.heap[B]? = _ from h]
theorem Rdr.to_ {W : World} {B f t H c : Nat} (h : Rdr W B f t H c) : W.cell? ⟨B, 3, none⟩ = some (.int .u64 (t : Int)) := by simp [World.cell?, show W.heap[B]? = _ from h]
theorem Rdr.frozen {W : World} {B f t H c : Nat} (h : Rdr W B f t H c) (i : Nat) : W.frozen? ⟨B, i, none⟩ = false := frozen_of_row W B i _ _ h
theorem Rdr.same {W W' : World} {B f t H c : Nat} (h : Rdr W B f t H c) (e : W'.heap[B]? = W.heap[B]?) : Rdr W' B f t H c := e.trans h
theorem Rdr.setHeld {W : World} {B f t H c : Nat} (h : Rdr W B f t H c) (H' : Nat) : Rdr (W.setCell ⟨B, 0, none⟩ (.int .u32 (H' : Int))) B f t H' c := heap_setCell_same W B 0 _ _ _ h
theorem Rdr.setCount {W : World} {B f t H c : Nat} (h : Rdr W B f t H c) (c' : Nat) : Rdr (W.setCell ⟨B, 1, none⟩ (.int .u64 (c' : Int))) B f t H c' := heap_setCell_same W B 1 _ _ _ h
theorem grown_set (W : World) (B i : Nat) (v : Value) : W.grownBy (W.setCell ⟨B, i, none⟩ v) (some B) :=
  ⟨rfl, rfl, rfl, by simp, fun k _ hk => heap_setCell_other W ⟨B, i, none⟩ k v (fun e => hk (by rw [e]))⟩
theorem grown_drewN (W : World) (n : Nat) (r : Option Nat) : W.grownBy (W.drewN n) r := ⟨rfl, rfl, rfl, Nat.le_refl _, fun _ _ _ => rfl⟩
theorem grown_drew (W : World) (r : Option Nat) : W.grownBy W.drew r := ⟨rfl, rfl, rfl, Nat.le_refl _, fun _ _ _ => rfl⟩
theorem grown_trans {A B C : World} {r : Option Nat} (h : A.grownBy B r) (k : B.grownBy C r) : A.grownBy C r :=
  ⟨k.os.trans h.os, k.tape.trans h.tape, k.output.trans h.output, Nat.le_trans h.size k.size, fun i hi hr => (k.block i (Nat.lt_of_lt_of_le hi h.size) hr).trans (h.block i hi hr)⟩

theorem pow_fit (k : Nat) (h : k ≤ 16) : ((2 : Int) ^ k - 1) % 4294967296 = 2 ^ k - 1 := by
  have h1 : 2 ^ k ≤ 2 ^ 16 := Nat.pow_le_pow_right (by decide) h
  have h2 : (1 : Nat) ≤ 2 ^ k := Nat.one_le_two_pow
  have h3 : ((2 : Int) ^ k) = ((2 ^ k : Nat) : Int) := by push_cast; rfl
  rw [h3]; omega
theorem by8 {H k : Nat} (h : H / 2 ^ k < 256) : ((H : Int) / 2 ^ k % 256) = ((H / 2 ^ k : Nat) : Int) := by
  have e : ((H : Int) / 2 ^ k) = ((H / 2 ^ k : Nat) : Int) := by push_cast; rfl
  rw [e]
  generalize H / 2 ^ k = q at h
  omega

/-- What put leaves. -/
def PutPost (B f t H c : Nat) (w : World) (e : Ending) (w' : World) : Prop := (∃ v, e = .returned v) ∧ Rdr w' B f t H c ∧ w.grownBy w' (some B)
/-- What take leaves. -/
def TakePost (B f t H c x : Nat) (w : World) (e : Ending) (w' : World) : Prop := e = .returned (.int .u8 (x : Int)) ∧ Rdr w' B f t H c ∧ w.grownBy w' (some B)

set_option maxRecDepth 100000 in
set_option maxHeartbeats 400000 in
theorem put_calls (B f t H c n wd : Nat) (w : World) (hr : Rdr w B f t H c) (hc : c ≤ 16) (hw : wd ≤ 8) (hn : n < 2 ^ wd) (hH : H < 2 ^ c) :
    Calls Try.prog 31 #[.pointer (some ⟨B, 0, none⟩), .int .u8 (n : Int), .int .u64 (wd : Int)] w (PutPost B f t (H * 2 ^ wd + n) (c + wd) w) := by
  have h0 := hr.held
  have h1 := hr.count
  have f0 := hr.frozen 0
  have f1 := hr.frozen 1
  have hw8 : 2 ^ wd ≤ 2 ^ 8 := Nat.pow_le_pow_right (by decide) hw
  have hc8 : 2 ^ c ≤ 2 ^ 16 := Nat.pow_le_pow_right (by decide) hc
  have hn8 : n < 256 := by omega
  have hbd : H * 2 ^ wd + n < 2 ^ 31 := by
    have : H * 2 ^ wd ≤ 2 ^ 16 * 2 ^ 8 := Nat.mul_le_mul (by omega) hw8
    omega
  have HO := Lib.hid (or_u32 H wd n hn hbd)
  have HR := Lib.hid hr
  clear hr hn hH hw8 hc8 hbd
  go_enter Try.func31, Try.ntmps31
  go_wp2
  go_end0
  rw [HO.out]
  have e : ((c : Int) + (wd : Int)) = ((c + wd : Nat) : Int) := by push_cast; rfl
  rw [e]
  exact ⟨⟨_, rfl⟩, (HR.out.setHeld _).setCount _, grown_trans (grown_set _ _ _ _) (grown_set _ _ _ _)⟩

set_option maxRecDepth 100000 in
set_option maxHeartbeats 400000 in
theorem take_calls (B f t H c wd : Nat) (w : World) (hr : Rdr w B f t H c) (hc : c ≤ 16) (hw : wd ≤ c) (hw8 : wd ≤ 8) (hH : H < 2 ^ c) :
    Calls Try.prog 32 #[.pointer (some ⟨B, 0, none⟩), .int .u64 (wd : Int)] w (TakePost B f t (H % 2 ^ (c - wd)) (c - wd) (H / 2 ^ (c - wd)) w) := by
  have hmx : Try.prog.follows .mixedOrders = true := by kernel_rfl
  have h0 := hr.held
  have h1 := hr.count
  have f0 := hr.frozen 0
  have f1 := hr.frozen 1
  have hc8 : 2 ^ c ≤ 2 ^ 16 := Nat.pow_le_pow_right (by decide) hc
  have hH16 : H < 65536 := by omega
  have HA := Lib.hid (and_u32 H (c - wd) (by omega) (by omega))
  have HR := Lib.hid hr
  have hlt : H / 2 ^ (c - wd) < 256 := by
    have h2 : 2 ^ c = 2 ^ (c - wd) * 2 ^ wd := by rw [← Nat.pow_add]; congr 1; omega
    have h3 : 2 ^ wd ≤ 2 ^ 8 := Nat.pow_le_pow_right (by decide) hw8
    have h4 : H / 2 ^ (c - wd) < 2 ^ wd := by rw [Nat.div_lt_iff_lt_mul (Nat.two_pow_pos _), Nat.mul_comm, ← h2]; exact hH
    omega
  have HL := Lib.hid hlt
  clear hr hH hc8 hlt
  obtain ⟨k, hk⟩ : ∃ k, k = c - wd := ⟨_, rfl⟩
  have e : ((c : Int) - (wd : Int)) = (k : Int) := by omega
  have HE := Lib.hid e
  rw [← hk] at HA HL
  rw [← hk]
  have hk16 : k ≤ 16 := by omega
  clear e hk
  go_enter Try.func32, Try.ntmps32
  go_wp2
  rw [HE.out]
  have HR1 := Lib.hid (HR.out.setCount k)
  have HG1 := Lib.hid (grown_set w B 1 (.int .u64 (k : Int)))
  obtain ⟨W1, hW1⟩ : ∃ W1, W1 = w.setCell ⟨B, 1, none⟩ (.int .u64 (k : Int)) := ⟨_, rfl⟩
  rw [← hW1] at HR1 HG1 ⊢
  clear hW1 h0 h1 f0 f1
  have h0 := HR1.out.held
  have h1 := HR1.out.count
  have f0 := HR1.out.frozen 0
  go_quiet (fail)
  have HR2 := Lib.hid (show Rdr (W1.drewN nq) B f t H k from HR1.out)
  have HG2 := Lib.hid (grown_trans HG1.out (grown_drewN W1 nq _))
  obtain ⟨W2, hW2⟩ : ∃ W2, W2 = W1.drewN nq := ⟨_, rfl⟩
  rw [← hW2] at HR2 HG2 ⊢
  clear hW2 h0 h1 f0
  have h0 := HR2.out.held
  have h1 := HR2.out.count
  have f0 := HR2.out.frozen 0
  go_wp2
  go_still_tail 11, hmx
  go_wp2
  go_ret
  rw [pow_fit k hk16, HA.out, by8 HL.out]
  exact ⟨rfl, HR2.out.setHeld _, grown_trans HG2.out (grown_trans (grown_set _ _ _ _) (grown_drew _ _))⟩

set_option maxRecDepth 100000 in
set_option maxHeartbeats 400000 in
theorem fill_calls (B f t H c wd : Nat) (w : World) (hr : Rdr w B f t H c) (hw : c ≤ wd) (hw8 : wd ≤ 8) (hH : H < 2 ^ c) :
    Calls Try.prog 28 #[.pointer (some ⟨B, 0, none⟩), .int .u64 (wd : Int)] w (TakePost B f t 0 0 (H * 2 ^ (wd - c)) w) := by
  have h1 := hr.count
  have HR := Lib.hid hr
  have HH := Lib.hid hH
  obtain ⟨k, hk⟩ : ∃ k, k = wd - c := ⟨_, rfl⟩
  have e : ((wd : Int) - (c : Int)) = (k : Int) := by omega
  have HE := Lib.hid e
  have hck : c + k = wd := by omega
  have HK := Lib.hid hck
  rw [← hk]
  clear e hk hck hr hH
  go_enter Try.func28, Try.ntmps28
  go_wp2_with fail
  rw [HE.out]
  have hp : H * 2 ^ k + 0 < 2 ^ (c + k) := by rw [Nat.pow_add, Nat.add_zero]; exact Nat.mul_lt_mul_of_pos_right HH.out (Nat.two_pow_pos _)
  have HP := Lib.hid hp
  clear hp
  refine (put_calls B f t H c 0 k w HR.out (by have := HK.out; omega) (by have := HK.out; omega) (Nat.two_pow_pos _) HH.out).mono ?_
  rintro e w1 ⟨⟨v, rfl⟩, hr1, hg1⟩
  have HR1 := Lib.hid hr1
  have HG1 := Lib.hid hg1
  clear hr1 hg1
  go_wp2_with fail
  have T := take_calls B f t (H * 2 ^ k + 0) (c + k) wd w1 HR1.out (by have := HK.out; omega) (by have := HK.out; omega) hw8 HP.out
  rw [show c + k - wd = 0 from by have := HK.out; omega, Nat.pow_zero, Nat.mod_one, Nat.div_one, Nat.add_zero] at T
  obtain ⟨x, hx⟩ : ∃ x, x = H * 2 ^ k := ⟨_, rfl⟩
  rw [← hx] at T
  have HX := Lib.hid hx
  clear hx
  refine T.mono ?_
  clear T
  rintro e w2 ⟨rfl, hr2, hg2⟩
  have HR2 := Lib.hid hr2
  have HG2 := Lib.hid hg2
  clear hr2 hg2
  go_wp2
  go_ret
  exact ⟨by rw [← HX.out]; rfl, HR2.out, grown_trans HG1.out HG2.out⟩
end Go.Proofs.Ytfmhpeeecejpbaa
