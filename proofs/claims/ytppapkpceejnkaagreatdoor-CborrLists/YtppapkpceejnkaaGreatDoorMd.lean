/- Decimals, readers in memory; worlds that differ in one block. Plain mathematics: zeros taken off at either end. Slices of limbs in memory, as lists of numbers: plain facts, no walk. The walks of trim, limbAt and of cmp.Compare. Plain facts on numbers written to the base 1000000000: no program. slices.Backward over limbs, and the walk of compare. The iterator digits. A region that draws its order, in a round of a range over a function: its reads first, then one store. A row of limbs that a call made itself: block g of the heap, known whole. Plain facts on decimal digits: no program. Plain facts on what read lays of digits: no program's walk. The walk of read. The walk of readAll, of two texts. The walk of nat's Right. -/
import Derived.Test.YtppapkpceejnkaaGreatDoorMc
import Derived.Lib.LaidTab
import Derived.Lib.ItoaMem
import Derived.Lib.TrimByte
import Derived.WalkKit
import Derived.WalkSpells
import Derived.WalkLawsBesides
import Derived.Lib.Hide
import Derived.RangeFuncNested
import Derived.RangeFuncBound
import Derived.RangeFuncCalls
import Derived.RangeFuncLeaves
import Derived.RangeFuncBox
import Derived.Shelf.Abstract
import Derived.Shelf.RegionOpen
import Derived.OwnWalkIn
import Derived.TacticsInMore
import Derived.LoopNIn
import Derived.LoopIn
import Derived.StillTail
import Derived.StillTailTactics
import Derived.Laws.CopyOwn
import Derived.Lib.Repeat
import Derived.Lib.Strings
import Derived.WalkMore
import Derived.ScopeJumps
import Derived.LoopN

namespace Go.Proofs.YtppapkpceejnkaaGreatDoor
open Go.RowKit
open Go.Lib (decDigits nDigits)

/-- A decimal in memory. -/
def DecAt (W : World) (B : Nat) (n : Bool) (s : ByteArray) (e : Int) : Prop := W.heap[B]? = some (.cells #[.bool n, .string s, .int .i64 e] 24 (0, 0))
theorem DecAt.lt {W : World} {B : Nat} {n : Bool} {s : ByteArray} {e : Int} (h : DecAt W B n s e) : B < W.heap.size := (Array.getElem?_eq_some_iff.1 h).1
theorem DecAt.c0 {W : World} {B : Nat} {n : Bool} {s : ByteArray} {e : Int} (h : DecAt W B n s e) : W.cell? ⟨B, 0, none⟩ = some (.bool n) := by simp [World.cell?, show W.heap[B]? = _ from h]
theorem DecAt.c1 {W : World} {B : Nat} {n : Bool} {s : ByteArray} {e : Int} (h : DecAt W B n s e) : W.cell? ⟨B, 1, none⟩ = some (.string s) := by simp [World.cell?, show W.heap[B]? = _ from h]
theorem DecAt.c2 {W : World} {B : Nat} {n : Bool} {s : ByteArray} {e : Int} (h : DecAt W B n s e) : W.cell? ⟨B, 2, none⟩ = some (.int .i64 e) := by simp [World.cell?, show W.heap[B]? = _ from h]
theorem DecAt.f {W : World} {B : Nat} {n : Bool} {s : ByteArray} {e : Int} (h : DecAt W B n s e) (i : Nat) : W.frozen? ⟨B, i, none⟩ = false := frozen_of_row W B i _ _ h
theorem DecAt.below {W W' : World} {B : Nat} {n : Bool} {s : ByteArray} {e : Int} (h : DecAt W B n s e) (hb : Below W.heap.size W W') : DecAt W' B n s e := (hb.block B h.lt).trans h
theorem DecAt.new (W : World) (n : Bool) (s : ByteArray) (e : Int) : DecAt (W.alloc (.cells #[.bool n, .string s, .int .i64 e] 24)) W.heap.size n s e := heap_alloc_new W _
theorem DecAt.alloc {W : World} {B : Nat} {n : Bool} {s : ByteArray} {e : Int} (h : DecAt W B n s e) (o : Obj) : DecAt (W.alloc o) B n s e := h.below ((Below.refl _ W).alloc (Nat.le_refl _) o)
/-- A decimal stored. -/
def setD (W : World) (B : Nat) (n : Bool) (s : ByteArray) (e : Int) : World := ((W.setCell ⟨B, 0, none⟩ (.bool n)).setCell ⟨B, 1, none⟩ (.string s)).setCell ⟨B, 2, none⟩ (.int .i64 e)
theorem DecAt.set {W : World} {B : Nat} {n n' : Bool} {s s' : ByteArray} {e e' : Int} (h : DecAt W B n s e) : DecAt (setD W B n' s' e') B n' s' e' := by
  have h1 := heap_setCell_same W B 0 _ _ (.bool n') h
  have h2 := heap_setCell_same _ B 1 _ _ (.string s') h1
  exact heap_setCell_same _ B 2 _ _ (.int .i64 e') h2
theorem DecAt.off {W : World} {B C : Nat} {n n' : Bool} {s s' : ByteArray} {e e' : Int} (h : DecAt W B n s e) (hne : B ≠ C) : DecAt (setD W C n' s' e') B n s e :=
  (heap_setCell_other _ ⟨C, 2, none⟩ B _ hne).trans ((heap_setCell_other _ ⟨C, 1, none⟩ B _ hne).trans ((heap_setCell_other _ ⟨C, 0, none⟩ B _ hne).trans h))
theorem below_setD {w W : World} {B : Nat} (h : Below w.heap.size w W) (hB : w.heap.size ≤ B) (n : Bool) (s : ByteArray) (e : Int) : Below w.heap.size w (setD W B n s e) :=
  ((h.setCell (p := ⟨B, 0, none⟩) hB _).setCell (p := ⟨B, 1, none⟩) hB _).setCell (p := ⟨B, 2, none⟩) hB _
theorem below_next {w W W' : World} (h : Below w.heap.size w W) (hb : Below W.heap.size W W') : Below w.heap.size w W' := h.trans (hb.mono h.size)

/-- All that was there stands, but for one block. -/
structure Kb (B : Nat) (w w' : World) : Prop where
  os : w'.os = w.os
  tape : w'.tape = w.tape
  output : w'.output = w.output
  size : w.heap.size ≤ w'.heap.size
  block : ∀ k, k < w.heap.size → k ≠ B → w'.heap[k]? = w.heap[k]?
theorem Kb.refl (B : Nat) (w : World) : Kb B w w := ⟨rfl, rfl, rfl, Nat.le_refl _, fun _ _ _ => rfl⟩
theorem Kb.trans {B : Nat} {a b c : World} (h : Kb B a b) (k : Kb B b c) : Kb B a c :=
  ⟨k.os.trans h.os, k.tape.trans h.tape, k.output.trans h.output, Nat.le_trans h.size k.size, fun i hi hB => (k.block i (Nat.lt_of_lt_of_le hi h.size) hB).trans (h.block i hi hB)⟩
theorem Kb.ofBelow {B : Nat} {a b : World} (h : Below a.heap.size a b) : Kb B a b := ⟨h.os, h.tape, h.output, h.size, fun i hi _ => h.block i hi⟩
theorem Kb.below {B : Nat} {a b c : World} (h : Kb B a b) (k : Below b.heap.size b c) : Kb B a c := h.trans (Kb.ofBelow k)
theorem Kb.toBelow {B n : Nat} {a b : World} (h : Kb B a b) (h1 : n ≤ B) (h2 : n ≤ a.heap.size) : Below n a b :=
  ⟨h.os, h.tape, h.output, h.size, fun k hk => h.block k (by omega) (by omega)⟩
theorem Kb.alloc {B : Nat} {a w : World} (h : Kb B a w) (o : Obj) : Kb B a (w.alloc o) := h.below ((Below.refl _ w).alloc (Nat.le_refl _) o)
theorem Kb.drew {B : Nat} {a w : World} (h : Kb B a w) : Kb B a w.drew := ⟨h.os, h.tape, h.output, h.size, h.block⟩
theorem Kb.setCell {B : Nat} {a w : World} (h : Kb B a w) (i : Nat) (u : Value) : Kb B a (w.setCell ⟨B, i, none⟩ u) :=
  ⟨h.os, h.tape, h.output, by rw [World.size_setCell]; exact h.size, fun k hk hB => (Below.heap_setCell w ⟨B, i, none⟩ u k hB).trans (h.block k hk hB)⟩
theorem Kb.dec {B C : Nat} {a b : World} {n : Bool} {s : ByteArray} {e : Int} (h : Kb B a b) (hd : DecAt a C n s e) (hne : C ≠ B) : DecAt b C n s e := (h.block C hd.lt hne).trans hd

/-- The library's table of powers of ten is as the program lays it. -/
def Tab (w : World) : Prop := Lib.TabIs Tryz.prog w "internal/strconv.uint64pow10" .u64 Lib.pow10Tab
theorem Tab.below {A B : World} (h : Tab A) (hb : Below A.heap.size A B) : Tab B := by
  unfold Tab Lib.TabIs World.var? at *
  cases hg : Tryz.prog.globalNamed "internal/strconv.uint64pow10" with
  | none => simp [hg] at h
  | some g =>
    simp only [hg, Option.bind_some] at h ⊢
    have hlt : g < A.heap.size := by
      rcases Nat.lt_or_ge g A.heap.size with h' | h'
      · exact h'
      · rw [Array.getElem?_eq_none h'] at h; simp at h
    rw [hb.block g hlt]
    exact h
section
variable {W W' : World} {B : Nat} {s : ByteArray} {n : Bool} {wh fr : ByteArray} {le : Bool} {po : ByteArray}
end
end Go.Proofs.YtppapkpceejnkaaGreatDoor

namespace Go.Proofs.YtppapkpceejnkaaGreatDoor
open Go.RowKit
open Go.Lib (decDigits nDigits)

theorem trimL_parts (l : List UInt8) : ∃ p, l = List.replicate p 48 ++ Lib.trimLeftB l 48 ∧ (Lib.trimLeftB l 48).head? ≠ some 48 := by
  induction l with
  | nil => exact ⟨0, rfl, by simp [Lib.trimLeftB]⟩
  | cons c l ih =>
    by_cases hc : c = 48
    · subst hc
      obtain ⟨p, h1, h2⟩ := ih
      refine ⟨p + 1, ?_, ?_⟩
      · have : Lib.trimLeftB (48 :: l) 48 = Lib.trimLeftB l 48 := by simp [Lib.trimLeftB]
        rw [this, List.replicate_succ, List.cons_append, ← h1]
      · have : Lib.trimLeftB (48 :: l) 48 = Lib.trimLeftB l 48 := by simp [Lib.trimLeftB]
        rw [this]; exact h2
    · have : Lib.trimLeftB (c :: l) 48 = c :: l := by simp [Lib.trimLeftB, hc]
      exact ⟨0, by rw [this]; rfl, by rw [this]; simpa using hc⟩
theorem trimR_parts (l : List UInt8) : ∃ p, l = Lib.trimRightB l 48 ++ List.replicate p 48 ∧ (Lib.trimRightB l 48).getLast? ≠ some 48 := by
  obtain ⟨p, h1, h2⟩ := trimL_parts l.reverse
  refine ⟨p, ?_, ?_⟩
  · have := congrArg List.reverse h1
    rw [List.reverse_reverse, List.reverse_append, List.reverse_replicate] at this
    exact this
  · have : Lib.trimRightB l 48 = (Lib.trimLeftB l.reverse 48).reverse := rfl
    rw [this, List.getLast?_reverse]
    exact h2

theorem dv_last {l : List UInt8} (h1 : l.all isD = true) (h0 : l ≠ []) (h2 : l.getLast? ≠ some 48) : dv l % 10 ≠ 0 := by
  obtain ⟨m, c, rfl⟩ : ∃ m c, l = m ++ [c] := ⟨l.dropLast, l.getLast h0, (List.dropLast_concat_getLast h0).symm⟩
  rw [List.all_append, Bool.and_eq_true, List.all_cons, Bool.and_eq_true] at h1
  have hc := (isD_iff c).1 h1.2.1
  rw [dv_snoc]
  have : c ≠ 48 := by simpa using h2
  have h3 : c.toNat ≠ 48 := fun e => this (UInt8.toNat_inj.1 e)
  omega

theorem isNat_mk {l : List UInt8} (h1 : l ≠ []) (h2 : l.length ≤ 400) (h3 : l.head? ≠ some 48) (h4 : l.all isD = true) : isNat l = true := by
  rw [isNat, h4]
  have : l.isEmpty = false := by cases l; exact absurd rfl h1; rfl
  simp [this, h2, h3]

/-- What Make comes to, by its own steps. -/
theorem make_steps {n : Bool} {l nat kept : List UInt8} {e : Int} (hl : l.length ≤ 400) (h0 : l ≠ []) (h1 : -1000 ≤ e) (h2 : e ≤ 1000) (hn : nat = Lib.trimLeftB l 48) (hk : kept = Lib.trimRightB nat 48) :
    (nat = [] → makeR n l e = some (false, 0, 0)) ∧ (nat ≠ [] → isNat nat = false → makeR n l e = none) ∧
    (isNat nat = true → kept.length ≤ nat.length ∧ isNat kept = true ∧ kept ≠ [48] ∧ (rightD n kept (e + nat.length - kept.length) = true → makeR n l e = some (n, dv kept, e + nat.length - kept.length) ∧ decDigits (dv kept) = kept) ∧ (rightD n kept (e + nat.length - kept.length) = false → makeR n l e = none)) := by
  obtain ⟨p, e1, e2⟩ := trimL_parts l
  rw [← hn] at e1 e2
  have hlen : p + nat.length = l.length := by
    have := congrArg List.length e1
    simp at this
    omega
  refine ⟨fun hz => ?_, fun hz hf => ?_, fun ht => ?_⟩
  · rw [hz, List.append_nil] at e1
    have ha : l.all isD = true := by rw [e1]; exact all_rep p
    refine makeR_zero (fun h => ?_) ?_
    · rcases h with h | h | h | h | h
      · exact h0 h
      · omega
      · omega
      · omega
      · rw [ha] at h; cases h
    · have := dv_pad p []
      rw [List.append_nil] at this
      rw [e1, this]; rfl
  · refine makeR_bad (.inr (.inr (.inr (.inr ?_))))
    rw [Bool.eq_false_iff]
    intro ha
    rw [e1, List.all_append, Bool.and_eq_true] at ha
    rw [Bool.eq_false_iff] at hf
    exact hf (isNat_mk hz (by omega) e2 ha.2)
  · obtain ⟨g1, g2, g3, g4⟩ := isNat_parts ht
    obtain ⟨k, f1, f2⟩ := trimR_parts nat
    rw [← hk] at f1 f2
    have hlk : kept.length + k = nat.length := by
      have := congrArg List.length f1
      simp at this
      omega
    have hka : kept.all isD = true := by
      rw [f1, List.all_append, Bool.and_eq_true] at g4
      exact g4.1
    have hk0 : kept ≠ [] := by
      intro hz
      rw [hz, List.nil_append] at f1
      cases k with
      | zero => exact g1 (by rw [f1]; rfl)
      | succ k => exact e2 (by rw [f1]; rfl)
    have hkh : kept.head? ≠ some 48 := by
      intro hz
      apply e2
      rw [f1]
      cases kept with
      | nil => cases hz
      | cons c t => simpa using hz
    have hkn : isNat kept = true := isNat_mk hk0 (by omega) hkh hka
    have hk48 : kept ≠ [48] := fun hz => hkh (by rw [hz]; rfl)
    have hla : l.all isD = true := by
      rw [e1, List.all_append, all_rep p, g4]; rfl
    have hcan : decDigits (dv kept) = kept := dec_canon hk0 (.inl hkh) hka
    have hdl := dv_last hka hk0 f2
    have hdv : dv l = dv kept * 10 ^ k := by
      rw [e1, dv_pad, f1, dv_zeros]
    have hbad : ¬ (l = [] ∨ 400 < l.length ∨ e < -1000 ∨ 1000 < e ∨ l.all isD = false) := by
      intro h
      rcases h with h | h | h | h | h
      · exact h0 h
      · omega
      · omega
      · omega
      · rw [hla] at h; cases h
    have hm := makeR_more (n := n) hbad hdv hdl (by omega)
    have hr := rightD_dec n hdl (lim_dv (by omega) hka hk0) (e + k)
    have hx : e + (nat.length : Int) - (kept.length : Int) = e + k := by omega
    rw [hcan] at hr
    refine ⟨by omega, hkn, hk48, fun h => ⟨?_, hcan⟩, fun h => ?_⟩
    · rw [hx] at h ⊢
      rw [hr] at h
      simp only [Bool.and_eq_true, decide_eq_true_eq] at h
      rw [hm, if_pos h]
    · rw [hx, hr] at h
      rw [hm, if_neg]
      rintro ⟨a1, a2, a3⟩
      simp [a1, a2, a3] at h
end Go.Proofs.YtppapkpceejnkaaGreatDoor

namespace Go.Proofs.YtppapkpceejnkaaGreatDoor
open Go.RowKit

theorem lat_lt {L : List Nat} {j : Nat} (h : j < L.length) : lat L j = L[j] := by simp [lat, h]
theorem lat_ge {L : List Nat} {j : Nat} (h : L.length ≤ j) : lat L j = 0 := by simp [lat, List.getElem?_eq_none h]

theorem Lm.below {A B : World} {v : Value} {L : List Nat} (h : Lm A v L) (hb : Below A.heap.size A B) : Lm B v L := by
  rcases h with h | ⟨b, off, cap, rfl, hc, hlt, hcs⟩
  · exact .inl h
  · exact .inr ⟨b, off, cap, rfl, hc, Nat.lt_of_lt_of_le hlt hb.size, fun j hj => (hb.cell (p := ⟨b, off + j, none⟩) hlt).trans (hcs j hj)⟩

theorem Lm.shape {W : World} {v : Value} {L : List Nat} (h : Lm W v L) : ∃ a cap, v = .slice a L.length cap := by
  rcases h with ⟨rfl, rfl⟩ | ⟨b, off, cap, rfl, _⟩
  · exact ⟨none, 0, rfl⟩
  · exact ⟨_, _, rfl⟩

/-- A call hands back limbs; what lay there lies as it lay. -/
def RetLm (L : List Nat) (w : World) (e : Ending) (w' : World) : Prop := ∃ v, e = .returned v ∧ Lm w' v L ∧ Below w.heap.size w w'

/-- Without the noughts at the end. -/
def trimL (L : List Nat) : List Nat := (L.reverse.dropWhile (· == 0)).reverse

theorem trimL_snoc_zero (L : List Nat) : trimL (L ++ [0]) = trimL L := by simp [trimL]
theorem trimL_snoc_pos (L : List Nat) (x : Nat) (h : x ≠ 0) : trimL (L ++ [x]) = L ++ [x] := by simp [trimL, h]
theorem trimL_nil : trimL [] = [] := rfl
theorem trimL_take_zero (L : List Nat) (k : Nat) (hk : k < L.length) (h : lat L k = 0) : trimL (L.take (k + 1)) = trimL (L.take k) := by
  rw [List.take_succ_eq_append_getElem hk]
  have : L[k] = 0 := by rw [← lat_lt hk]; exact h
  rw [this, trimL_snoc_zero]
theorem trimL_take_pos (L : List Nat) (k : Nat) (hk : k < L.length) (h : lat L k ≠ 0) : trimL (L.take (k + 1)) = L.take (k + 1) := by
  rw [List.take_succ_eq_append_getElem hk]
  have : L[k] ≠ 0 := by rw [← lat_lt hk]; exact h
  exact trimL_snoc_pos _ _ this
end Go.Proofs.YtppapkpceejnkaaGreatDoor

namespace Go.Proofs.YtppapkpceejnkaaGreatDoor
open Go.RowKit

theorem trim_end {L : List Nat} {w : World} {b off k : Nat} (hk : k ≤ L.length) (hb : b < w.heap.size)
    (hc : ∀ j, j < L.length → w.cell? ⟨b, off + j, none⟩ = some (.int .u32 (lat L j : Nat))) (h : trimL L = L.take k) (c : Nat) (hc' : k ≤ c) :
    RetLm (trimL L) w (.returned (.slice (some ⟨b, off, none⟩) k c)) w := by
  refine ⟨_, rfl, .inr ⟨b, off, c, ?_, ?_, hb, ?_⟩, Below.refl _ _⟩
  · rw [h, List.length_take, Nat.min_eq_left hk]
  · rw [h, List.length_take, Nat.min_eq_left hk]; exact hc'
  · intro j hj
    rw [h, List.length_take, Nat.min_eq_left hk] at hj
    rw [h, show lat (L.take k) j = lat L j from by simp [lat, List.getElem?_take_of_lt hj]]
    exact hc j (by omega)

set_option maxHeartbeats 400000 in
theorem trim_some (L : List Nat) (w : World) (b off cap : Nat) (hl : L.length ≤ 1000) (hcap : L.length ≤ cap) (hb : b < w.heap.size)
    (hc : ∀ j, j < L.length → w.cell? ⟨b, off + j, none⟩ = some (.int .u32 (lat L j : Nat))) :
    Calls Tryz.prog 179 #[.slice (some ⟨b, off, none⟩) L.length cap] w (RetLm (trimL L) w) := by
  have HC := Lib.hid hc
  clear hc
  go_enter Tryz.func179, Tryz.ntmps179
  go_wp2
  go_loop [3] (fun n => ∃ k : Nat, k ≤ L.length ∧ n = .int .i64 k ∧ trimL (L.take k) = trimL L) (fun n => (intOf n).toNat)
  case atStart => exact ⟨L.length, Nat.le_refl _, rfl, by simp⟩
  case round =>
    obtain ⟨k, hk, rfl, ht⟩ := hrel
    have HT := Lib.hid ht
    clear ht
    rcases k with _ | k
    · go_wp2
      go_ret
      exact trim_end (Nat.zero_le _) hb HC.out (by rw [← HT.out]; rfl) 0 (Nat.le_refl _)
    · have hc1 := HC.out k (by omega)
      by_cases hz : lat L k = 0
      · have HZ := Lib.hid hz
        rw [hz] at hc1
        clear hz
        go_wp2
        go_round
        case rel => exact ⟨k, by omega, by go_num, by rw [← HT.out, trimL_take_zero L k (by omega) HZ.out]⟩
        case measure => simp [intOf]
      · have HZ := Lib.hid hz
        have hz1 : ((lat L k : Nat) == (0 : Int)) = false := by simpa using hz
        clear hz
        go_wp2
        go_ret
        exact trim_end hk hb HC.out (by rw [← HT.out]; exact trimL_take_pos L k (by omega) HZ.out) (k + 1) (Nat.le_refl _)

set_option maxHeartbeats 400000 in
theorem trim_nil (w : World) : Calls Tryz.prog 179 #[.slice none 0 0] w (RetLm [] w) := by
  go_enter Tryz.func179, Tryz.ntmps179
  go_wp2
  go_loop [3] (fun n => n = .int .i64 0) (fun n => (intOf n).toNat)
  case atStart => rfl
  case round =>
    subst hrel
    go_wp2
    go_ret
    exact ⟨_, rfl, .inl ⟨rfl, rfl⟩, Below.refl _ _⟩

theorem trim_calls (v : Value) (L : List Nat) (w : World) (hl : L.length ≤ 1000) (h : Lm w v L) : Calls Tryz.prog 179 #[v] w (RetLm (trimL L) w) := by
  rcases h with ⟨rfl, rfl⟩ | ⟨b, off, cap, rfl, hcap, hb, hc⟩
  · exact trim_nil w
  · exact trim_some L w b off cap hl hcap hb hc

set_option maxHeartbeats 400000 in
theorem limbAt_calls (v : Value) (L : List Nat) (w : World) (i : Nat) (hl : L.length ≤ 1000) (h : Lm w v L) :
    Calls Tryz.prog 178 #[v, .int .i64 (i : Int)] w fun e w' => e = .returned (.int .u32 (lat L i : Nat)) ∧ w = w' := by
  rcases h with ⟨rfl, rfl⟩ | ⟨b, off, cap, rfl, hcap, hb, hc⟩
  · go_enter Tryz.func178, Tryz.ntmps178
    go_wp2
    go_ret
    exact ⟨by simp [lat], rfl⟩
  · by_cases hi : i < L.length
    · have hc1 := hc i hi
      clear hc
      go_enter Tryz.func178, Tryz.ntmps178
      go_wp2
      go_ret
      exact ⟨rfl, rfl⟩
    · have h0 : lat L i = 0 := lat_ge (Nat.le_of_not_lt hi)
      have H0 := Lib.hid h0
      clear hc h0
      go_enter Tryz.func178, Tryz.ntmps178
      go_wp2
      go_ret
      exact ⟨by rw [H0.out]; rfl, rfl⟩

end Go.Proofs.YtppapkpceejnkaaGreatDoor

namespace Go.Proofs.YtppapkpceejnkaaGreatDoor

theorem vt_congr {f g : Nat → Nat} {k : Nat} (h : ∀ j, j < k → f j = g j) : vt f k = vt g k := by
  induction k with
  | zero => rfl
  | succ k ih => rw [vt, vt, ih (fun j hj => h j (by omega)), h k (by omega)]

theorem vt_zero {f : Nat → Nat} {k m : Nat} (hkm : k ≤ m) (h : ∀ j, k ≤ j → j < m → f j = 0) : vt f m = vt f k := by
  induction m with
  | zero => obtain rfl : k = 0 := by omega
            rfl
  | succ m ih =>
    by_cases e : k = m + 1
    · subst e; rfl
    · rw [vt, ih (by omega) (fun j h1 h2 => h j h1 (by omega)), h m (by omega) (by omega)]; simp

theorem vt_lt {f : Nat → Nat} {k : Nat} (h : ∀ j, j < k → f j < 1000000000) : vt f k < 1000000000 ^ k := by
  induction k with
  | zero => simp [vt]
  | succ k ih =>
    have h1 := ih (fun j hj => h j (by omega))
    have h2 := h k (by omega)
    rw [vt, Nat.pow_succ]
    have h3 : (f k + 1) * 1000000000 ^ k ≤ 1000000000 * 1000000000 ^ k := Nat.mul_le_mul_right _ h2
    rw [Nat.add_mul] at h3
    omega

theorem vt_mono {f : Nat → Nat} {k m : Nat} (h : k ≤ m) : vt f k ≤ vt f m := by
  induction m with
  | zero => obtain rfl : k = 0 := by omega
            exact Nat.le_refl _
  | succ m ih =>
    by_cases e : k = m + 1
    · subst e; exact Nat.le_refl _
    · rw [vt]; have := ih (by omega); omega

theorem val_eq {L : List Nat} {k : Nat} (h : L.length ≤ k) : vt (lat L) k = val L := vt_zero h fun _ h1 _ => lat_ge h1

theorem val_lt {L : List Nat} (h : Bd L) : val L < 1000000000 ^ L.length := vt_lt fun j _ => h j

theorem val_ge {L : List Nat} (h : Nm L) (hne : L ≠ []) : 1000000000 ^ (L.length - 1) ≤ val L := by
  have hn : lat L (L.length - 1) ≠ 0 := by rcases h with h | h; exact absurd h hne; exact h
  have hl : 0 < L.length := List.length_pos_iff.2 hne
  rw [val, show L.length = L.length - 1 + 1 from by omega, vt, show L.length - 1 + 1 - 1 = L.length - 1 from by omega]
  have : 1 * 1000000000 ^ (L.length - 1) ≤ lat L (L.length - 1) * 1000000000 ^ (L.length - 1) := Nat.mul_le_mul_right _ (by omega)
  omega

theorem val_zero_iff {L : List Nat} (h : Nm L) : val L = 0 ↔ L = [] := by
  constructor
  · intro h0
    by_cases e : L = []
    · exact e
    · have := val_ge h e
      have : 0 < 1000000000 ^ (L.length - 1) := Nat.pow_pos (by omega)
      omega
  · rintro rfl; rfl

theorem val_lt_of_length {L M : List Nat} (hL : Bd L) (hM : Nm M) (h : L.length < M.length) : val L < val M := by
  have h1 := val_lt hL
  have h2 := val_ge hM (by intro e; subst e; simp at h)
  have h3 : 1000000000 ^ L.length ≤ 1000000000 ^ (M.length - 1) := Nat.pow_le_pow_right (by omega) (by omega)
  omega

/-- Where all above place i is one, place i decides. -/
theorem vt_lt_of_place {f g : Nat → Nat} {n i : Nat} (hi : i < n) (hf : ∀ j, f j < 1000000000) (h : f i < g i) (hab : ∀ j, i < j → j < n → f j = g j) : vt f n < vt g n := by
  induction n with
  | zero => omega
  | succ n ih =>
    rw [vt, vt]
    by_cases e : i = n
    · subst e
      have h1 := vt_lt (k := i) (fun j _ => hf j)
      have h2 : (f i + 1) * 1000000000 ^ i ≤ g i * 1000000000 ^ i := Nat.mul_le_mul_right _ h
      rw [Nat.add_mul] at h2
      omega
    · have := ih (by omega) (fun j h1 h2 => hab j h1 (by omega))
      rw [hab n (by omega) (by omega)]
      omega

theorem trimL_spec (L : List Nat) : ∃ k, k ≤ L.length ∧ trimL L = L.take k ∧ (∀ j, k ≤ j → lat L j = 0) ∧ (k = 0 ∨ lat L (k - 1) ≠ 0) := by
  have key : ∀ n, n ≤ L.length → (∀ j, n ≤ j → lat L j = 0) → ∃ k, k ≤ L.length ∧ trimL (L.take n) = L.take k ∧ (∀ j, k ≤ j → lat L j = 0) ∧ (k = 0 ∨ lat L (k - 1) ≠ 0) := by
    intro n
    induction n with
    | zero => intro h h0; exact ⟨0, by omega, by simp [trimL], h0, .inl rfl⟩
    | succ n ih =>
      intro h h0
      by_cases hz : lat L n = 0
      · rw [trimL_take_zero L n (by omega) hz]
        exact ih (by omega) (fun j hj => by by_cases e : j = n; (subst e; exact hz); exact h0 j (by omega))
      · exact ⟨n + 1, h, trimL_take_pos L n (by omega) hz, h0, .inr (by simpa using hz)⟩
  obtain ⟨k, h⟩ := key L.length (Nat.le_refl _) (fun j hj => lat_ge hj)
  rw [List.take_length] at h
  exact ⟨k, h⟩

theorem lat_take {L : List Nat} {k j : Nat} (h : j < k) : lat (L.take k) j = lat L j := by simp [lat, List.getElem?_take_of_lt h]

theorem val_trim (L : List Nat) : val (trimL L) = val L := by
  obtain ⟨k, hk, h1, h2, _⟩ := trimL_spec L
  rw [h1, val, List.length_take, Nat.min_eq_left hk, val, vt_zero hk (fun j h _ => h2 j h)]
  exact vt_congr fun j hj => lat_take hj

theorem nm_trim (L : List Nat) : Nm (trimL L) := by
  obtain ⟨k, hk, h1, _, h3⟩ := trimL_spec L
  rw [h1, Nm, List.length_take, Nat.min_eq_left hk]
  rcases h3 with rfl | h3
  · exact .inl (by simp)
  · by_cases e : k = 0
    · subst e; exact .inl (by simp)
    · right; rw [lat_take (by omega)]; exact h3

theorem bd_trim {L : List Nat} (h : Bd L) : Bd (trimL L) := by
  obtain ⟨k, hk, h1, _, _⟩ := trimL_spec L
  intro j
  rw [h1]
  by_cases e : j < k
  · rw [lat_take e]; exact h j
  · rw [lat_ge (by rw [List.length_take]; omega)]; omega

theorem length_trim (L : List Nat) : (trimL L).length ≤ L.length := by
  obtain ⟨k, hk, h1, _, _⟩ := trimL_spec L
  rw [h1, List.length_take]; omega
/-- The first k of what Backward hands over. -/
def backP (L : List Nat) (k : Nat) : List (Nat × Nat) := (List.range k).map fun t => (L.length - 1 - t, lat L (L.length - 1 - t))
theorem backP_succ (L : List Nat) (k : Nat) : backP L (k + 1) = backP L k ++ [(L.length - 1 - k, lat L (L.length - 1 - k))] := by simp [backP, List.range_succ]
theorem backP_length (L : List Nat) (k : Nat) : (backP L k).length = k := by simp [backP]

end Go.Proofs.YtppapkpceejnkaaGreatDoor

namespace Go.Proofs.YtppapkpceejnkaaGreatDoor
open Go.RowKit Go.Shelf

attribute [local go_sem] Oper.semAt_some

/-- A place of L and what stands there. -/
abbrev LX (L : List Nat) := { x : Nat × Nat // x.1 < L.length ∧ x.2 = lat L x.1 }
/-- The blocks of S lie as they lay. -/
def Kpt (S : Nat → Prop) (A B : World) : Prop := A.heap.size ≤ B.heap.size ∧ ∀ k, S k → B.heap[k]? = A.heap[k]?
theorem Kpt.refl (S : Nat → Prop) (A : World) : Kpt S A A := ⟨Nat.le_refl _, fun _ _ => rfl⟩
theorem Kpt.trans {S : Nat → Prop} {A B C : World} (h : Kpt S A B) (k : Kpt S B C) : Kpt S A C := ⟨Nat.le_trans h.1 k.1, fun i hi => (k.2 i hi).trans (h.2 i hi)⟩
theorem Kpt.cell {S : Nat → Prop} {A B : World} (h : Kpt S A B) {p : Addr} (hp : S p.block) : B.cell? p = A.cell? p := World.cell?_of_block (w := A) (h.2 p.block hp)
theorem Kpt.book {S : Nat → Prop} {w : World} (hS : ∀ k, S k → k < w.heap.size) (W : World) (l : Nat) (o o' : Obj) (hl : w.heap.size ≤ l) (_ : W.heap[l]? = some o) (_ : o.isCells = false) (_ : o.isWalk = false) : Kpt S W (W.putObj l o') :=
  ⟨by simp [World.putObj], fun k hk => World.putObj_heap_other (by have := hS k hk; omega)⟩

set_option maxRecDepth 100000 in
set_option maxHeartbeats 2000000 in
theorem back1_in (n : Nat) (hn : 1 ≤ n) (l Bs b off cap : Nat) (S : Nat → Prop) (L : List Nat) (hl : L.length ≤ 1000) (hb : S b) (hBn : S Bs) (J Jx : List (LX L) → World → Prop)
    (hY : ∀ pre x W, J pre W → pre.length < L.length → YieldAt Fence.wide (n - 1) Tryz.prog l #[.int .i64 (x.1.1 : Int), .int .u32 (x.1.2 : Int)] W fun e W' =>
      (e = .returned (.bool true) ∧ J (pre ++ [x]) W' ∧ Kpt S W W') ∨ (e = .returned (.bool false) ∧ Jx (pre ++ [x]) W'))
    (W : World) (hBs : W.cell? ⟨Bs, 0, none⟩ = some (.slice (some ⟨b, off, none⟩) L.length cap)) (hc : ∀ j, j < L.length → W.cell? ⟨b, off + j, none⟩ = some (.int .u32 (lat L j : Nat))) (h0 : J [] W) :
    CallsIn Fence.wide n Tryz.prog 208 #[.func (.yield l) #[] #[], .pointer (some ⟨Bs, 0, none⟩)] W fun e W' => (∃ v, e = .returned v) ∧
      ((∃ ys, ys.map (·.1) = backP L L.length ∧ J ys W') ∨ (∃ pre, (∃ k, k ≤ L.length ∧ pre.map (·.1) = backP L k) ∧ Jx pre W')) := by
  have HC := Lib.hid hc
  have HY := Lib.hid hY
  clear hc hY
  refine callsIn_of_wp Tryz.func208 rfl trivial ?_ rfl
  simp only [Tryz.ntmps208, List.size_toArray, List.length_cons, List.length_nil, Nat.reduceAdd, Nat.reduceSub, Array.replicate_succ, Array.replicate_zero, List.push_toArray, List.append_toArray, List.nil_append, List.cons_append]
  gi_wp2
  gi_loopw [3] (fun i wr => ∃ (m : Nat) (pre : List (LX L)), m ≤ L.length ∧ i = .int .i64 ((m : Int) - 1) ∧ pre.map (·.1) = backP L (L.length - m) ∧ J pre wr ∧ Kpt S W wr)
    (fun i _ => (intOf i + 1).toNat)
  case atStart => exact ⟨L.length, [], Nat.le_refl _, rfl, by simp [backP], h0, Kpt.refl _ _⟩
  case round =>
    obtain ⟨m, pre, hm, rfl, hpre, hJs, hnx⟩ := hrel
    have HP := Lib.hid hpre
    clear hpre
    have hBs2 := (hnx.cell (p := ⟨Bs, 0, none⟩) hBn).trans hBs
    rcases m with _ | m
    · gi_wp2
      go_end0
      exact ⟨⟨_, rfl⟩, .inl ⟨pre, by rw [HP.out]; simp, hJs⟩⟩
    · have e1 : ((m + 1 : Nat) : Int) - 1 = (m : Int) := by omega
      rw [e1]
      clear e1
      have hcx : wr.cell? ⟨b, off + m, none⟩ = some (.int .u32 (lat L m : Nat)) := (hnx.cell (p := ⟨b, off + m, none⟩) hb).trans (HC.out m (by omega))
      obtain ⟨fn, tmps, assign, body, hy, hR⟩ := HY.out pre ⟨(m, lat L m), by omega, rfl⟩ wr hJs (by have := congrArg List.length HP.out; simp [backP_length] at this; omega)
      dsimp only at hy
      gi_wp2
      refine hR.mono ?_
      rintro e W3 (⟨rfl, hJ3, hk3⟩ | ⟨rfl, hJx3⟩)
      · gi_wp2
        go_roundw
        case rel => exact ⟨m, pre ++ [⟨(m, lat L m), by omega, rfl⟩], by omega, by go_num, by rw [List.map_append, HP.out, show L.length - m = L.length - (m + 1) + 1 from by omega, backP_succ, show L.length - 1 - (L.length - (m + 1)) = m from by omega]; rfl, hJ3, hnx.trans hk3⟩
        case measure => simp [intOf]
      · gi_wp2
        refine bodyPost_ret (results_none rfl _ _ _) rfl ?_
        exact ⟨⟨_, rfl⟩, .inr ⟨_, ⟨L.length - m, by omega, by rw [List.map_append, HP.out, show L.length - m = L.length - (m + 1) + 1 from by omega, backP_succ, show L.length - 1 - (L.length - (m + 1)) = m from by omega]; rfl⟩, hJx3⟩⟩

set_option maxRecDepth 100000 in
set_option maxHeartbeats 1000000 in
theorem back1_nil_in (n : Nat) (l Bs : Nat) (J : List (LX []) → World → Prop) (W : World) (hBs : W.cell? ⟨Bs, 0, none⟩ = some (.slice none 0 0)) (h0 : J [] W) :
    CallsIn Fence.wide n Tryz.prog 208 #[.func (.yield l) #[] #[], .pointer (some ⟨Bs, 0, none⟩)] W fun e W' => (∃ v, e = .returned v) ∧ J [] W' := by
  refine callsIn_of_wp Tryz.func208 rfl trivial ?_ rfl
  simp only [Tryz.ntmps208, List.size_toArray, List.length_cons, List.length_nil, Nat.reduceAdd, Nat.reduceSub, Array.replicate_succ, Array.replicate_zero, List.push_toArray, List.append_toArray, List.nil_append, List.cons_append]
  gi_wp2
  gi_loopw [3] (fun i wr => i = .int .i64 (-1) ∧ J [] wr) (fun _ _ => 0)
  case atStart => exact ⟨rfl, h0⟩
  case round =>
    obtain ⟨rfl, hJs⟩ := hrel
    gi_wp2
    go_end0
    exact ⟨⟨_, rfl⟩, hJs⟩

set_option maxHeartbeats 1000000 in
theorem back_in (n : Nat) (v : Value) (w : World) (a : Option Addr) (len cap : Nat) (hv : v = .slice a len cap) :
    CallsIn Fence.wide n Tryz.prog 176 #[v] w fun e w' => e = .returned (.func (.func 208) #[] #[.pointer (some ⟨w.heap.size, 0, none⟩)]) ∧ w' = w.alloc (.cells #[v] 194) := by
  subst hv
  refine callsIn_of_wp Tryz.func176 rfl trivial ?_ rfl
  simp only [Tryz.ntmps176, List.size_toArray, List.length_cons, List.length_nil, Nat.reduceAdd, Nat.reduceSub, Array.replicate_succ, Array.replicate_zero, List.push_toArray, List.append_toArray, List.nil_append, List.cons_append]
  gi_wp2
  go_ret
  exact ⟨rfl, rfl⟩

/-- slices.Backward hands over the places from the last one on. S: blocks that do not turn while the loop runs. -/
theorem back_stops (n : Nat) (hn : 1 ≤ n) (Bs : Nat) (S : Nat → Prop) (v : Value) (L : List Nat) (hl : L.length ≤ 1000) (w : World) (hBw : Bs < w.heap.size) (hBs : S Bs)
    (hc : w.cell? ⟨Bs, 0, none⟩ = some v) (hI : Lm w v L) (hlt : ∀ b off len cap, v = .slice (some ⟨b, off, none⟩) len cap → S b) :
    SeqStopsK Fence.wide n Tryz.prog 208 #[.pointer (some ⟨Bs, 0, none⟩)] (fun x : LX L => #[Value.int .i64 (x.1.1 : Int), Value.int .u32 (x.1.2 : Int)]) (Kpt S) (fun ys => ys.map (·.1) = backP L L.length)
      (fun pre => ∃ k, k ≤ L.length ∧ pre.map (·.1) = backP L k) L.length w := fun l J Jx W hW _ _ hY h0 => by
  have hc' := (hW.cell (p := ⟨Bs, 0, none⟩) hBw).trans hc
  rcases hI.below hW with ⟨rfl, rfl⟩ | ⟨b, off, cap, rfl, _, _, hcs⟩
  · exact (back1_nil_in n l Bs J W hc' h0).mono fun e W' ⟨he, hj⟩ => ⟨he, .inl ⟨_, rfl, hj⟩⟩
  · exact back1_in n hn l Bs b off cap S L hl (hlt _ _ _ _ rfl) hBs J Jx hY W hc' hcs h0
end Go.Proofs.YtppapkpceejnkaaGreatDoor

namespace Go.Proofs.YtppapkpceejnkaaGreatDoor
open Go.RowKit Go.Shelf

attribute [local go_sem] Oper.semAt_some

/-- A place and a digit. -/
abbrev DX (n : Nat) := { x : Nat × Nat // x.1 < n ∧ x.2 < 4294967296 }
/-- The digit of a byte; what is none is greater than 9. -/
def dgt (c : UInt8) : Nat := (c.toNat + 4294967248) % 4294967296
theorem dgt_lt (c : UInt8) : dgt c < 4294967296 := Nat.mod_lt _ (by omega)
/-- The first k of what digits hands over. -/
def digP (s : ByteArray) (k : Nat) : List (Nat × Nat) := (List.range k).map fun t => (s.size - 1 - t, dgt (byteAt s t))
theorem digP_succ (s : ByteArray) (k : Nat) : digP s (k + 1) = digP s k ++ [(s.size - 1 - k, dgt (byteAt s k))] := by simp [digP, List.range_succ]
theorem digP_length (s : ByteArray) (k : Nat) : (digP s k).length = k := by simp [digP]

theorem wrap_dgt (c : UInt8) : IntKind.u32.wrap ((c.toNat : Int) - 48) = (dgt c : Nat) := by
  have := c.toNat_lt
  rw [IntKind.wrap_u32, dgt]
  omega

set_option maxRecDepth 100000 in
set_option maxHeartbeats 2000000 in
theorem dig1_in (n : Nat) (hn : 1 ≤ n) (l Bs : Nat) (S : Nat → Prop) (s : ByteArray) (hl : s.size ≤ 1000) (hBn : S Bs) (J Jx : List (DX s.size) → World → Prop)
    (hY : ∀ pre x W, J pre W → pre.length < s.size → YieldAt Fence.wide (n - 1) Tryz.prog l #[.int .i64 (x.1.1 : Int), .int .u32 (x.1.2 : Int)] W fun e W' =>
      (e = .returned (.bool true) ∧ J (pre ++ [x]) W' ∧ Kpt S W W') ∨ (e = .returned (.bool false) ∧ Jx (pre ++ [x]) W'))
    (hdr : ∀ pre W, J pre W → J pre W.drew)
    (W : World) (hBs : W.cell? ⟨Bs, 0, none⟩ = some (.string s)) (h0 : J [] W) :
    CallsIn Fence.wide n Tryz.prog 231 #[.func (.yield l) #[] #[], .pointer (some ⟨Bs, 0, none⟩)] W fun e W' => (∃ v, e = .returned v) ∧
      ((∃ ys, ys.map (·.1) = digP s s.size ∧ J ys W') ∨ (∃ pre, (∃ k, k ≤ s.size ∧ pre.map (·.1) = digP s k) ∧ Jx pre W')) := by
  have HY := Lib.hid hY
  have HDR := Lib.hid hdr
  have hmx : Tryz.prog.follows .mixedOrders = true := by kernel_rfl
  clear hY hdr
  refine callsIn_of_wp Tryz.func231 rfl trivial ?_ rfl
  simp only [Tryz.ntmps231, List.size_toArray, List.length_cons, List.length_nil, Nat.reduceAdd, Nat.reduceSub, Array.replicate_succ, Array.replicate_zero, List.push_toArray, List.append_toArray, List.nil_append, List.cons_append]
  gi_wp2
  gi_loopw [3, 6] (fun _ i wr => ∃ (k : Nat) (pre : List (DX s.size)), k ≤ s.size ∧ i = .int .i64 (k : Int) ∧ pre.map (·.1) = digP s k ∧ J pre wr ∧ Kpt S W wr)
    (fun _ i _ => s.size - (intOf i).toNat)
  case atStart => exact ⟨0, [], Nat.zero_le _, rfl, by simp [digP], h0, Kpt.refl _ _⟩
  case round =>
    obtain ⟨k, pre, hk, rfl, hpre, hJs, hnx⟩ := hrel
    have HP := Lib.hid hpre
    clear hpre
    have hBs2 := (hnx.cell (p := ⟨Bs, 0, none⟩) hBn).trans hBs
    by_cases hlt : k < s.size
    · have e1 : IntKind.i64.wrap (IntKind.i64.wrap ((s.size : Int) - 1) - (k : Int)) = ((s.size - 1 - k : Nat) : Int) := by
        have e0 : IntKind.i64.wrap ((s.size : Int) - 1) = (s.size : Int) - 1 := IntWalk.i64_in _ (by omega)
        rw [e0, IntWalk.i64_in _ (by omega)]; omega
      have e2 : IntKind.u32.wrap (IntKind.u32.wrap (s[k].toNat : Int) - 48) = (dgt (byteAt s k) : Nat) := by
        have h1 : byteAt s k = s[k] := by simp [byteAt, hlt]; rfl
        rw [h1, ← wrap_dgt]
        have := s[k].toNat_lt
        rw [IntKind.wrap_u32 (s[k].toNat : Int)]
        congr 1
        omega
      obtain ⟨x, hx⟩ : ∃ x : DX s.size, x.1 = (s.size - 1 - k, dgt (byteAt s k)) := ⟨⟨(s.size - 1 - k, dgt (byteAt s k)), (show s.size - 1 - k < s.size by omega), dgt_lt _⟩, rfl⟩
      obtain ⟨fn, tmps, assign, body, hy, hR⟩ := HY.out pre x wr.drew (HDR.out pre wr hJs) (by have := congrArg List.length HP.out; simp [digP_length] at this; omega)
      rw [hx] at hy
      dsimp only at hy
      rw [← e1, ← e2] at hy
      have hR2 := hR.mono (R' := fun e W' => ∃ bv, e = .returned (.bool bv) ∧ ((bv = true ∧ J (pre ++ [x]) W' ∧ Kpt S wr.drew W') ∨ (bv = false ∧ Jx (pre ++ [x]) W'))) (by
        rintro e W' (⟨rfl, h⟩ | ⟨rfl, h⟩)
        · exact ⟨true, rfl, .inl ⟨rfl, h⟩⟩
        · exact ⟨false, rfl, .inr ⟨rfl, h⟩⟩)
      have HXx := Lib.hid hx
      clear e1 e2 hR hx
      gi_wp2
      gi_region_with_o (refine hR2.mono ?_; rintro e W3 ⟨bv, rfl, hpost⟩)
      all_goals
        clear hy hR2
        rcases hpost with ⟨rfl, hJ3, hk3⟩ | ⟨rfl, hJx3⟩
        · gi_wp2
          go_roundw
          case rel => exact ⟨k + 1, pre ++ [x], by omega, by go_num, by rw [List.map_append, HP.out, digP_succ, List.map_singleton, HXx.out], hJ3, hnx.trans ((show Kpt S wr wr.drew from ⟨Nat.le_refl _, fun _ _ => rfl⟩).trans hk3)⟩
          case measure => simp [intOf]; omega
        · gi_wp2
          refine bodyPost_ret (results_none rfl _ _ _) rfl ?_
          exact ⟨⟨_, rfl⟩, .inr ⟨_, ⟨k + 1, by omega, by rw [List.map_append, HP.out, digP_succ, List.map_singleton, HXx.out]⟩, hJx3⟩⟩
    · obtain rfl : k = s.size := by omega
      gi_wp2
      go_end0
      exact ⟨⟨_, rfl⟩, .inl ⟨pre, HP.out, hJs⟩⟩

set_option maxHeartbeats 1000000 in
theorem dig_in (n : Nat) (s : ByteArray) (w : World) :
    CallsIn Fence.wide n Tryz.prog 207 #[.string s] w fun e w' => e = .returned (.func (.func 231) #[] #[.pointer (some ⟨w.heap.size, 0, none⟩)]) ∧ w' = w.alloc (.cells #[.string s] 9) := by
  refine callsIn_of_wp Tryz.func207 rfl trivial ?_ rfl
  simp only [Tryz.ntmps207, List.size_toArray, List.length_cons, List.length_nil, Nat.reduceAdd, Nat.reduceSub, Array.replicate_succ, Array.replicate_zero, List.push_toArray, List.append_toArray, List.nil_append, List.cons_append]
  gi_wp2
  go_ret
  exact ⟨rfl, rfl⟩

theorem grown_drew (W : World) : W.grownBy W.drew none := ⟨rfl, rfl, rfl, Nat.le_refl _, fun _ _ _ => rfl⟩

/-- digits hands over the digits, the first one ahead, each with how many bytes stand behind it. -/
theorem dig_stops (n : Nat) (hn : 1 ≤ n) (Bs : Nat) (S : Nat → Prop) (s : ByteArray) (hl : s.size ≤ 1000) (w : World) (hBw : Bs < w.heap.size) (hBs : S Bs) (hc : w.cell? ⟨Bs, 0, none⟩ = some (.string s)) :
    SeqStopsK Fence.wide n Tryz.prog 231 #[.pointer (some ⟨Bs, 0, none⟩)] (fun x : DX s.size => #[Value.int .i64 (x.1.1 : Int), Value.int .u32 (x.1.2 : Int)]) (Kpt S) (fun ys => ys.map (·.1) = digP s s.size)
      (fun pre => ∃ k, k ≤ s.size ∧ pre.map (·.1) = digP s k) s.size w := fun l J Jx W hW hJ _ hY h0 =>
  dig1_in n hn l Bs S s hl hBs J Jx hY (fun pre X hX => hJ pre X _ none hX (grown_drew X) (fun r e => by cases e)) W ((hW.cell (p := ⟨Bs, 0, none⟩) hBw).trans hc) h0
end Go.Proofs.YtppapkpceejnkaaGreatDoor

namespace Go.Proofs.YtppapkpceejnkaaGreatDoor
open Go.RowKit

theorem rows_in_round {P : Program} {n l : Nat} {row : String} {args : Array Value} {w : World} {R : Value → World → Prop} (h : Rows P row args w R) : RowsIn (Fence.wide.inRound l) n P row args w R :=
  fun c cs _ => let ⟨v, w', r, s⟩ := h c cs; ⟨v, w', r, stepsIn_wide.2 s⟩

theorem oper_in_round {P : Program} {n l : Nat} {o : Oper} {a : Act} {w : World} {K : Act → World → Prop} {Q : Exit → Act → World → Prop} (hd : ∀ c, o.op ≠ .defer c) (h : o.wp P a w K Q) :
    o.wpIn (Fence.wide.inRound l) n P a w K Q := by
  refine ⟨fun _ _ => trivial, ?_⟩
  rw [Oper.semAt_eq _ _ _ hd]
  unfold Oper.wp at h
  generalize (execOp a.eval o).run P w = r at *
  cases r with
  | ok x w' =>
    cases x with
    | value v => exact h
    | skip => exact h
    | defer d => exact h
    | enter f args => exact ⟨(fun e => by cases e), CallsIn.inRound l (callsIn_wide.2 h)⟩
    | row row args => exact ⟨(fun e => by cases e), rows_in_round h⟩
    | round => exact h.elim
    | _ => exact h
  | halt x w' => cases x <;> exact h

theorem wpAny_in_round {P : Program} {n l : Nat} {md : Region.Mode} {ops : Array Oper} {Q : Exit → Act → World → Prop} (hd : ∀ (i : Nat) (o : Oper), ops[i]? = some o → ∀ c, o.op ≠ .defer c) (hno : ¬ LetsOut Q) :
    ∀ (fuel : Nat) (listed : Array Bool) (a : Act) (w : World), wpAny P md ops Q fuel listed a w → wpAnyIn (Fence.wide.inRound l) n P md ops Q fuel listed a w := by
  intro fuel
  induction fuel with
  | zero => intro listed a w h; exact h
  | succ fuel ih =>
    intro listed a w h
    refine ⟨h.1, fun i hi => ?_⟩
    have hh := h.2 i hi
    unfold wpOp at hh
    unfold wpOpIn
    cases ho : ops[i]? with
    | none => simp only [ho] at hh ⊢; exact ih _ _ _ hh
    | some o =>
      simp only [ho] at hh ⊢
      split
      · rename_i hw
        simp only [hw, if_true] at hh
        rcases hh with hh | ⟨_, hl⟩
        · exact Oper.wpIn_mono (fun a w h => ih _ a w h) (oper_in_round (hd i o ho) hh)
        · exact absurd hl hno
      · rename_i hw
        simp only [hw] at hh
        exact ⟨fun _ _ => trivial, ih _ _ _ hh⟩

/-- Reads first, then the last operations in their one order: of whatever order the region draws. -/
theorem wpAny_tail {P : Program} {Q : Exit → Act → World → Prop} {a : Act} {W : World} {l : List Oper} (n : Nat) (hB : Region.lexTailB .any l.toArray n = true)
    (h : wpStill P l.toArray W (fun a' => wpList P l.toArray Q (l.drop n) a' W) (l.take n) a) : wpAny P .any l.toArray Q l.toArray.size (Array.replicate l.toArray.size false) a W := by
  simp only [Region.lexTailB, Bool.and_eq_true, decide_eq_true_eq] at hB
  obtain ⟨⟨⟨⟨hsel, hn⟩, hs⟩, hc⟩, hlex⟩ := hB
  have hlen : (l.take n).length = n := by have : n < l.length := by simpa using hn
                                          simp; omega
  have hdrop : (l.drop n).length = l.toArray.size - n := by simp
  have start : HeadInv .any l.toArray n (Array.replicate l.toArray.size false) :=
    ⟨by simp, fun j oj _ hl => (by rw [getD_replicate_false] at hl; cases hl), fun t _ ht => getD_in (by simpa using ht) (getD_replicate_false _ _)⟩
  have head := wpAnyL_lex (md := .any) (g := l.toArray.size - n) hsel hs hc hn (l.take n) 0 _ a (fun j hj => by
    have hj' : j < n := by rw [hlen] at hj; exact hj
    simp [hj']) (by simpa using hlen) start (by rw [hlen]; exact hlex) h
  have all := wpAny_of_head (Q' := Q) (g := l.toArray.size - n) (fun listed a' hL => by
    have t := wpAny_of_seq (md := .any) (Q' := Q) (l.drop n) n listed a' W (fun j => by simp [List.getElem?_drop]) (by rw [hdrop]; exact hL.1) hL.2
    rwa [hdrop] at t) _ _ _ head
  rw [hlen, show n + (l.toArray.size - n) = l.toArray.size by have : n < l.toArray.size := hn
                                                              omega] at all
  exact all

theorem region_tail_round {P : Program} {N l₀ id : Nat} {Q : Exit → Act → World → Prop} {a : Act} {w : World} {l : List Oper} (n : Nat) (hm : P.follows .mixedOrders = true) (hB : Region.lexTailB .any l.toArray n = true)
    (hd : l.all (fun o => match o.op with | .defer _ => false | _ => true) = true) (hno : ¬ LetsOut Q)
    (h : wpStill P l.toArray w.drew (fun a' => wpList P l.toArray Q (l.drop n) a' w.drew) (l.take n) a) : (Code.region id l.toArray true).wpIn (Fence.wide.inRound l₀) N P Q a w := by
  refine wpIn_region_any hm (wpAny_in_round (fun i o ho c e => ?_) hno _ _ _ _ (wpAny_tail n hB h))
  have hm := List.all_eq_true.1 hd o (by rw [List.getElem?_toArray] at ho; exact List.mem_of_getElem? ho)
  rw [e] at hm
  cases hm
end Go.Proofs.YtppapkpceejnkaaGreatDoor

namespace Go.Proofs.YtppapkpceejnkaaGreatDoor
open Go.RowKit

def mapv (L : List Nat) : List Value := L.map fun n : Nat => Value.int .u32 (n : Int)
theorem mapv_length (L : List Nat) : (mapv L).length = L.length := by simp [mapv]
theorem mapv_get {L : List Nat} {j : Nat} (h : j < L.length) : (mapv L)[j]? = some (.int .u32 (lat L j : Nat)) := by simp [mapv, lat, h]
/-- Block g holds just the limbs L. -/
def Row (W : World) (g : Nat) (L : List Nat) : Prop := W.heap[g]? = some (.cells (mapv L).toArray 242 (0, 0))

theorem Row.lt {W : World} {g : Nat} {L : List Nat} (h : Row W g L) : g < W.heap.size := (Array.getElem?_eq_some_iff.1 h).1
theorem Row.cell {W : World} {g : Nat} {L : List Nat} (h : Row W g L) {j : Nat} (hj : j < L.length) : W.cell? ⟨g, j, none⟩ = some (.int .u32 (lat L j : Nat)) := by
  simp only [World.cell?, show W.heap[g]? = _ from h]
  simpa using mapv_get hj
theorem Row.frozen {W : World} {g : Nat} {L : List Nat} (h : Row W g L) (j : Nat) : W.frozen? ⟨g, j, none⟩ = false := by
  simp [World.frozen?, show W.heap[g]? = _ from h]
theorem Row.set {W : World} {g : Nat} {L : List Nat} (h : Row W g L) (j v : Nat) : Row (W.setCell ⟨g, j, none⟩ (.int .u32 (v : Int))) g (L.set j v) := by
  obtain ⟨hlt, hk⟩ := Array.getElem?_eq_some_iff.1 h
  show (W.heap.modify g _)[g]? = _
  rw [Array.getElem?_eq_getElem (by rw [Array.size_modify]; exact hlt), Array.getElem_modify_self, hk]
  simp [mapv, List.map_set]
theorem Row.setI {W : World} {g : Nat} {L : List Nat} (h : Row W g L) (j : Nat) {x : Int} (v : Nat) (e : x = (v : Int)) : Row (W.setCell ⟨g, j, none⟩ (.int .u32 x)) g (L.set j v) := by subst e; exact h.set j v
theorem Row.kept {W W' : World} {g : Nat} {L : List Nat} (h : Row W g L) (e : W'.heap[g]? = W.heap[g]?) : Row W' g L := e.trans h
theorem Row.below {W W' : World} {g : Nat} {L : List Nat} (h : Row W g L) (hb : Below W.heap.size W W') : Row W' g L := h.kept (hb.block g h.lt)
theorem Row.lm {W : World} {g : Nat} {L : List Nat} (h : Row W g L) {cap : Nat} (hc : L.length ≤ cap) : Lm W (.slice (some ⟨g, 0, none⟩) L.length cap) L :=
  .inr ⟨g, 0, cap, rfl, hc, h.lt, fun j hj => by rw [Nat.zero_add]; exact h.cell hj⟩

theorem lat_set_same {L : List Nat} {j v : Nat} (h : j < L.length) : lat (L.set j v) j = v := by simp [lat, h]
theorem lat_set_other {L : List Nat} {j k v : Nat} (h : j ≠ k) : lat (L.set j v) k = lat L k := by simp [lat, List.getElem?_set_ne h]

theorem info31 : (Tryz.prog.info? 242).map (fun i => (i.zero, i.size, i.bytes)) = some (some (.int .u32 0), 1, 4) := by kernel_rfl
theorem size31 : (Tryz.prog.info? 242).map (·.size) = some 1 := by kernel_rfl

theorem made_eq (n : Nat) : (madeCells #[Value.int .u32 0] n).toList = mapv (List.replicate n 0) := by
  apply List.ext_getElem
  · simp [madeCells, mapv]
  · intro i h1 h2; simp [madeCells, mapv, Nat.mod_one]

theorem make_limbs {w : World} {ops : Array Oper} {rest : List Oper} {o : Oper} {a : Act} {Q : Exit → Act → World → Prop} (hg : o.guard = none) (l c : Operand) (hop : o.op = Op.makeSlice 194 l c) (C : Int) (n : Nat)
    (hl : a.eval l = .int .i64 C) (hc : a.eval c = .int .i64 C) (hC : C = (n : Int)) (hn : n ≤ 100000)
    (hK : ∀ w', Hid (Row w' w.heap.size (List.replicate n 0)) → Below w.heap.size w w' → w.heap.size < w'.heap.size → wpList Tryz.prog ops Q rest (a.put o.dst (.slice (some ⟨w.heap.size, 0, none⟩) n n)) w') :
    wpList Tryz.prog ops Q (o :: rest) a w := by
  obtain ⟨i0, hi, hz0, hz1, hz2⟩ := info_parts info31
  refine wpList_make_full w hg l c 194 hop w.heap.size 242 i0 (.int .u32 0) 1 Tryz.underlying194 hi hz0 hz1 .i64 .i64 C C n hl hc hC hC (by rw [hz2]; omega) (by unfold maxLen; omega) (Nat.le_refl _) ?_
  intro w' hown hgr
  have hrow : Row w' w.heap.size (List.replicate n 0) := by
    rcases hown.2 with ⟨e, _⟩ | ⟨g, cap, cur, e, _, hh, _, _, hs, ht⟩
    · cases e
    · cases e
      rw [show (Value.int IntKind.u32 0).cells = #[.int .u32 0] from rfl, Nat.mul_one, made_eq] at ht
      rw [List.take_of_length_le (by simp [hs])] at ht
      rw [Row, hh, ← ht]
  exact hK w' hrow ((Below.refl _ _).grown hgr (Nat.le_refl _) (fun k e => by cases e)) hrow.lt

theorem splice_mapv (S L : List Nat) : splice (mapv S) 0 (mapv L) = mapv (L ++ S.drop L.length) := by simp [splice, mapv]

theorem copy_limbs {w : World} {ops : Array Oper} {rest : List Oper} {o : Oper} {a : Act} {Q : Exit → Act → World → Prop} (hg : o.guard = none) (d s : Operand)
    (ho : o.op = .call { callee := .builtin .copy, args := #[d, s], argTypes := #[194, 194] }) (g cap : Nat) (S L : List Nat) (vx : Value) (n : Nat) (hn : n = S.length)
    (hd : a.eval d = .slice (some ⟨g, 0, none⟩) n cap) (hs : a.eval s = vx) (hx : Lm w vx L) (hrow : Row w g S) (hle : L.length ≤ S.length) (B : Nat) (w0 : World) (hb : Below B w0 w) (hBg : B ≤ g)
    (h : ∀ w', Hid (Row w' g (L ++ S.drop L.length)) → Below B w0 w' → wpList Tryz.prog ops Q rest (a.put o.dst (goInt L.length)) w') : wpList Tryz.prog ops Q (o :: rest) a w := by
  subst hn
  have key : ∀ (sp : Option Addr) (sCap : Nat), vx = .slice sp L.length sCap → (0 < L.length → ∃ ad, sp = some ad ∧ ∀ j v, (mapv L)[j]? = some v → w.cell? (ad.add j) = some v) → wpList Tryz.prog ops Q (o :: rest) a w := by
    intro sp sCap e hsrc
    refine wpList_copy_splice hg d s 194 194 ho 242 Tryz.underlying194 size31 (some ⟨g, 0, none⟩) sp S.length cap L.length sCap hd (by rw [hs, e]) g 0 (mapv S) 242 hrow (mapv L) (by rw [mapv_length]; exact (Nat.min_eq_left hle).symm) (fun hp => ⟨rfl, hsrc (by simpa [mapv] using hp)⟩) (by simpa [mapv] using hle) (by intro v hv; simp only [mapv, List.mem_map] at hv; obtain ⟨n, _, rfl⟩ := hv; rfl) B w0 hb hBg ?_
    intro w' hr hbb
    have hr' := hr.out
    rw [splice_mapv] at hr'
    rw [mapv_length]
    exact h w' hr' hbb
  rcases hx with ⟨rfl, rfl⟩ | ⟨b, off, cap', rfl, _, _, hc⟩
  · exact key none 0 rfl (fun h => by simp at h)
  · refine key (some ⟨b, off, none⟩) cap' rfl (fun _ => ⟨_, rfl, fun j v hv => ?_⟩)
    have hj : j < L.length := by have := (List.getElem?_eq_some_iff.1 hv).1; rwa [mapv_length] at this
    rw [mapv_get hj] at hv
    cases hv
    rw [Lib.add_plain]
    exact hc j hj
end Go.Proofs.YtppapkpceejnkaaGreatDoor

namespace Go.Proofs.YtppapkpceejnkaaGreatDoor
open Go.Lib (decDigits nDigits nDigits_small nDigits_big nDigits_pos lt_pow_nDigits decDigits_length repeatL)

theorem digs_length (k n : Nat) : (digs k n).length = k := by
  induction k generalizing n with
  | zero => rfl
  | succ k ih => simp [digs, ih]

theorem digs_add (k m n : Nat) : digs (k + m) n = digs k (n / 10 ^ m) ++ digs m n := by
  induction m generalizing n with
  | zero => simp [digs]
  | succ m ih =>
    rw [← Nat.add_assoc, digs, ih, digs, Nat.pow_succ, Nat.mul_comm (10 ^ m) 10, ← Nat.div_div_eq_div_mul, List.append_assoc]

theorem digs_mod (m n : Nat) : digs m (n % 10 ^ m) = digs m n := by
  induction m generalizing n with
  | zero => rfl
  | succ m ih =>
    rw [digs, digs]
    have h1 : n % 10 ^ (m + 1) / 10 = n / 10 % 10 ^ m := by rw [Nat.pow_succ, Nat.mul_comm, Nat.mod_mul_right_div_self]
    have h2 : n % 10 ^ (m + 1) % 10 = n % 10 := by rw [Nat.pow_succ, Nat.mul_comm]; exact Nat.mod_mul_right_mod _ _ _
    rw [h1, h2, ih]

theorem digs_zero (k : Nat) : digs k 0 = List.replicate k 48 := by
  induction k with
  | zero => rfl
  | succ k ih => rw [digs, Nat.zero_div, ih]; simp [List.replicate_succ']

theorem nDigits_add {a b m : Nat} (ha : 0 < a) (hb : b < 10 ^ m) : nDigits (a * 10 ^ m + b) = nDigits a + m := by
  induction m generalizing b with
  | zero => simp at hb; subst hb; simp
  | succ m ih =>
    have hp : 0 < 10 ^ m := Nat.pow_pos (by omega)
    have h1 : (a * 10 ^ (m + 1) + b) / 10 = a * 10 ^ m + b / 10 := by rw [Nat.pow_succ, ← Nat.mul_assoc]; omega
    have h2 : ¬ a * 10 ^ (m + 1) + b < 10 := by
      have : 1 * 10 ^ m ≤ a * 10 ^ m := Nat.mul_le_mul_right _ ha
      rw [Nat.pow_succ, ← Nat.mul_assoc]; omega
    rw [nDigits_big h2, h1, ih (by rw [Nat.pow_succ] at hb; omega), Nat.add_assoc]

theorem dec_add {a b m : Nat} (ha : 0 < a) (hb : b < 10 ^ m) : decDigits (a * 10 ^ m + b) = decDigits a ++ digs m b := by
  have hp : 0 < 10 ^ m := Nat.pow_pos (by omega)
  rw [dec_digs, nDigits_add ha hb, digs_add, dec_digs a]
  congr 1
  · rw [Nat.mul_comm, Nat.mul_add_div hp, Nat.div_eq_of_lt hb, Nat.add_zero]
  · rw [← digs_mod m (a * 10 ^ m + b), Nat.mul_comm, Nat.mul_add_mod, Nat.mod_eq_of_lt hb]

theorem pad_digs {k n : Nat} (hk : 1 ≤ k) (h : n < 10 ^ k) : repeatL [48] (k - (decDigits n).length) ++ decDigits n = digs k n := by
  have h1 := nDigits_le hk h
  rw [decDigits_length, show digs k n = digs (k - nDigits n + nDigits n) n from by rw [Nat.sub_add_cancel h1], digs_add, Nat.div_eq_of_lt (lt_pow_nDigits n), digs_zero, ← dec_digs]
  congr 1
  have := Go.Lib.repeatL_replicate 48 1 (k - nDigits n)
  simpa using this

/-- What tell writes of one limb. -/
def txt1 (top : Nat) (x : Nat × Nat) : List UInt8 := if x.1 < top then repeatL [48] (9 - (decDigits x.2).length) ++ decDigits x.2 else decDigits x.2
def txt (top : Nat) (l : List (Nat × Nat)) : List UInt8 := (l.map (txt1 top)).flatten
theorem txt_snoc (top : Nat) (l : List (Nat × Nat)) (x : Nat × Nat) : txt top (l ++ [x]) = txt top l ++ txt1 top x := by simp [txt]

theorem txt1_le {top : Nat} {x : Nat × Nat} (h : x.2 < 1000000000) : (txt1 top x).length ≤ 9 := by
  have h1 : nDigits x.2 ≤ 9 := nDigits_le (by omega) h
  rw [txt1]
  split
  · rw [pad_digs (k := 9) (by omega) h, digs_length]; omega
  · rw [decDigits_length]; exact h1

theorem vt_shift (f : Nat → Nat) (k : Nat) : vt f (k + 1) = f 0 + 1000000000 * vt (fun j => f (j + 1)) k := by
  induction k with
  | zero => simp [vt]
  | succ k ih =>
    rw [vt, ih, show vt (fun j => f (j + 1)) (k + 1) = vt (fun j => f (j + 1)) k + f (k + 1) * 1000000000 ^ k from rfl, Nat.pow_succ, Nat.mul_add, Nat.add_assoc]
    congr 2
    rw [← Nat.mul_assoc, Nat.mul_comm]

theorem hv_succ {L : List Nat} {k : Nat} (h : k < L.length) : hv L (k + 1) = hv L k * 1000000000 + lat L (L.length - 1 - k) := by
  rw [hv, vt_shift, hv, Nat.add_zero, show L.length - (k + 1) = L.length - 1 - k from by omega, Nat.mul_comm, Nat.add_comm]
  congr 2
  apply vt_congr
  intro j _
  congr 1
  omega
theorem hv_pos {L : List Nat} (nm : Nm L) {k : Nat} (h1 : 1 ≤ k) (h : k ≤ L.length) : 0 < hv L k := by
  induction k with
  | zero => omega
  | succ k ih =>
    rw [hv_succ h]
    cases k with
    | zero =>
      have : lat L (L.length - 1) ≠ 0 := by rcases nm with e | e; (subst e; simp at h); exact e
      simp only [Nat.sub_zero]
      omega
    | succ k => have := ih (by omega) (by omega); omega

theorem txt_back {L : List Nat} (bd : Bd L) (nm : Nm L) {k : Nat} (h1 : 1 ≤ k) (h : k ≤ L.length) : txt (L.length - 1) (backP L k) = decDigits (hv L k) := by
  induction k with
  | zero => omega
  | succ k ih =>
    rw [backP_succ, txt_snoc, hv_succ h]
    cases k with
    | zero => simp [backP, txt, txt1, hv, vt]
    | succ k =>
      rw [ih (by omega) (by omega), txt1, if_pos (by simp only; omega), pad_digs (k := 9) (by omega) (bd _)]
      exact (dec_add (m := 9) (hv_pos nm (by omega) (by omega)) (bd _)).symm
theorem hv_all (L : List Nat) : hv L L.length = val L := by simp [hv, val]

end Go.Proofs.YtppapkpceejnkaaGreatDoor

namespace Go.Proofs.YtppapkpceejnkaaGreatDoor

/-- One digit more, as read lays it. -/
def stepD (X : List Nat) (x : Nat × Nat) : List Nat := X.set (x.1 / 9) ((lat X (x.1 / 9) * 10 % 4294967296 + x.2) % 4294967296)
def foldD (n : Nat) (l : List (Nat × Nat)) : List Nat := l.foldl stepD (List.replicate n 0)
theorem foldD_snoc (n : Nat) (l : List (Nat × Nat)) (x : Nat × Nat) : foldD n (l ++ [x]) = stepD (foldD n l) x := by simp [foldD]
theorem foldD_length (n : Nat) (l : List (Nat × Nat)) : (foldD n l).length = n := by
  have : ∀ (l : List (Nat × Nat)) (X : List Nat), (l.foldl stepD X).length = X.length := by
    intro l
    induction l with
    | nil => intro X; rfl
    | cons x l ih => intro X; rw [List.foldl_cons, ih, stepD, List.length_set]
  rw [foldD, this, List.length_replicate]

def sumN (g : Nat → Nat) : Nat → Nat
  | 0 => 0
  | n + 1 => sumN g n + g n
theorem sumN_congr {g h : Nat → Nat} {n : Nat} (e : ∀ a, a < n → g a = h a) : sumN g n = sumN h n := by
  induction n with
  | zero => rfl
  | succ n ih => rw [sumN, sumN, ih (fun a ha => e a (by omega)), e n (by omega)]
theorem sumN_upd {g h : Nat → Nat} {n i D : Nat} (hi : i < n) (e : ∀ a, a < n → a ≠ i → h a = g a) (ei : h i = g i + D) : sumN h n = sumN g n + D := by
  induction n with
  | zero => omega
  | succ n ih =>
    rw [sumN, sumN]
    by_cases hin : i = n
    · subst hin
      rw [ei, sumN_congr (h := g) (fun a ha => e a (by omega) (by omega))]; omega
    · rw [ih (by omega) (fun a ha hne => e a (by omega) hne), e n (by omega) (by omega)]; omega

/-- What X is when k digits have come, m stand behind. -/
structure RdI (n m V : Nat) (X : List Nat) : Prop where
  len : X.length = n
  bd : ∀ a, lat X a < 10 ^ (9 * a + 9 - max (9 * a) m)
  sum : sumN (fun a => lat X a * 10 ^ max (9 * a) m) n = V * 10 ^ m

theorem RdI.step {n m V d : Nat} {X : List Nat} (h : RdI n (m + 1) V X) (hm : m / 9 < n) (hd : d ≤ 9) : RdI n m (V * 10 + d) (stepD X (m, d)) := by
  have hb := h.bd (m / 9)
  have hx : max (9 * (m / 9)) (m + 1) = m + 1 := by omega
  have hx' : max (9 * (m / 9)) m = m := by omega
  rw [hx] at hb
  have h8 : 10 ^ (9 * (m / 9) + 9 - (m + 1)) ≤ 10 ^ 8 := Nat.pow_le_pow_right (by omega) (by omega)
  have e1 : (lat X (m / 9) * 10 % 4294967296 + d) % 4294967296 = lat X (m / 9) * 10 + d := by
    have : (10 : Nat) ^ 8 = 100000000 := by decide
    omega
  have hs : stepD X (m, d) = X.set (m / 9) (lat X (m / 9) * 10 + d) := by rw [stepD, e1]
  have hi : m / 9 < X.length := by rw [h.len]; exact hm
  rw [hs]
  refine ⟨by rw [List.length_set]; exact h.len, fun a => ?_, ?_⟩
  · by_cases e : m / 9 = a
    · subst e
      rw [lat_set_same hi, hx', show 9 * (m / 9) + 9 - m = 9 * (m / 9) + 9 - (m + 1) + 1 from by omega, Nat.pow_succ]
      omega
    · rw [lat_set_other e]
      exact Nat.lt_of_lt_of_le (h.bd a) (Nat.pow_le_pow_right (by omega) (by omega))
  · have key : sumN (fun a => lat (X.set (m / 9) (lat X (m / 9) * 10 + d)) a * 10 ^ max (9 * a) m) n = sumN (fun a => lat X a * 10 ^ max (9 * a) (m + 1)) n + d * 10 ^ m := by
      refine sumN_upd hm (fun a _ hne => ?_) ?_
      · rw [lat_set_other (Ne.symm hne)]
        by_cases ha : a < m / 9
        · have hz := h.bd a
          rw [show 9 * a + 9 - max (9 * a) (m + 1) = 0 from by omega, Nat.pow_zero] at hz
          have : lat X a = 0 := by omega
          rw [this, Nat.zero_mul, Nat.zero_mul]
        · rw [show max (9 * a) m = max (9 * a) (m + 1) from by omega]
      · rw [lat_set_same hi, hx, hx', Nat.pow_succ, Nat.add_mul, Nat.mul_assoc, Nat.mul_comm 10 (10 ^ m)]
    rw [key, h.sum, Nat.pow_succ, Nat.add_mul, Nat.mul_assoc, Nat.mul_comm 10 (10 ^ m)]

theorem RdI.fin {n V : Nat} {X : List Nat} (h : RdI n 0 V X) : val X = V ∧ Bd X := by
  refine ⟨?_, fun j => ?_⟩
  · have e := h.sum
    rw [Nat.pow_zero, Nat.mul_one] at e
    rw [← e, val, h.len]
    have : ∀ k, vt (lat X) k = sumN (fun a => lat X a * 10 ^ max (9 * a) 0) k := by
      intro k
      induction k with
      | zero => rfl
      | succ k ih => rw [vt, sumN, ih, Nat.max_eq_left (Nat.zero_le _), Nat.pow_mul]
    exact this n
  · have := h.bd j
    rw [Nat.max_eq_left (Nat.zero_le _), show 9 * j + 9 - 9 * j = 9 from by omega] at this
    exact this

theorem sumN_zero (n : Nat) (g : Nat → Nat) (h : ∀ a, g a = 0) : sumN g n = 0 := by
  induction n with
  | zero => rfl
  | succ n ih => rw [sumN, ih, h]

theorem lat_rep (n a : Nat) : lat (List.replicate n 0) a = 0 := by
  simp only [lat, List.getElem?_replicate]
  split <;> rfl

theorem dgt_le {c : UInt8} : dgt c ≤ 9 ↔ isD c = true := by
  have := c.toNat_lt
  simp only [dgt, isD, Bool.and_eq_true, decide_eq_true_eq]
  omega
theorem dgt_eq {c : UInt8} (h : isD c = true) : dgt c = c.toNat - 48 := by
  have := c.toNat_lt
  simp only [isD, Bool.and_eq_true, decide_eq_true_eq] at h
  simp only [dgt]
  omega

theorem rd_all (s : ByteArray) (n : Nat) (hn : n = (s.size + 8) / 9) (hd : ∀ t, t < s.size → isD (byteAt s t) = true) (k : Nat) (hk : k ≤ s.size) :
    RdI n (s.size - k) (dv (s.data.toList.take k)) (foldD n (digP s k)) := by
  induction k with
  | zero =>
    refine ⟨by rw [foldD_length], fun a => ?_, ?_⟩
    · simp only [digP, List.range_zero, List.map_nil, foldD, List.foldl_nil, lat_rep]
      exact Nat.pow_pos (by omega)
    · simp only [digP, List.range_zero, List.map_nil, foldD, List.foldl_nil, lat_rep, Nat.zero_mul]
      rw [sumN_zero _ _ (fun _ => rfl)]
      simp [dv]
  | succ k ih =>
    have h := ih (by omega)
    rw [show s.size - k = s.size - (k + 1) + 1 from by omega] at h
    have hlen : k < s.data.toList.length := by rw [← Lib.size_eq]; exact hk
    have hb : byteAt s k = s.data.toList[k] := by rw [byteAt_list, List.getElem?_eq_getElem hlen]; rfl
    have hdk := hd k (by omega)
    rw [digP_succ, foldD_snoc, List.take_succ_eq_append_getElem hlen, dv_snoc, ← hb, ← dgt_eq hdk, show s.size - 1 - k = s.size - (k + 1) from by omega]
    exact h.step (by omega) (dgt_le.2 hdk)

theorem rd_fin (s : ByteArray) (n : Nat) (hn : n = (s.size + 8) / 9) (hd : ∀ t, t < s.size → isD (byteAt s t) = true) : val (foldD n (digP s s.size)) = dv s.data.toList ∧ Bd (foldD n (digP s s.size)) := by
  have h := rd_all s n hn hd s.size (Nat.le_refl _)
  rw [Nat.sub_self, List.take_of_length_le (by rw [← Lib.size_eq]; exact Nat.le_refl _)] at h
  exact h.fin

end Go.Proofs.YtppapkpceejnkaaGreatDoor

namespace Go.Proofs.YtppapkpceejnkaaGreatDoor
open Go.RowKit Go.Shelf

attribute [local go_sem] Oper.semAt_some

/-- What read hands back. -/
def ReadPost (l : List UInt8) (w : World) (e : Ending) (w' : World) : Prop :=
  (isNat l = false ∧ e = .returned (.tuple #[.slice none 0 0, .bool false]) ∧ Below w.heap.size w w') ∨
  (isNat l = true ∧ ∃ R v, e = .returned (.tuple #[v, .bool true]) ∧ Lm w' v R ∧ Bd R ∧ Nm R ∧ val R = dv l ∧ R.length ≤ 45 ∧ Below w.heap.size w w')

theorem scope_in {n : Nat} {c : Code} {Q : Exit → Act → World → Prop} {a : Act} {w : World} (h : c.wpIn Fence.wide n Tryz.prog (Exit.noGoto Q) a w) : (Code.scope c).wpIn Fence.wide n Tryz.prog Q a w :=
  wpIn_wide.2 (wp_scope_straight (wpIn_wide.1 h))
theorem label_in {n : Nat} {l : Nat} {Q : Exit → Act → World → Prop} {a : Act} {w : World} (h : Q .normal a w) : (Code.label l).wpIn Fence.wide n Tryz.prog Q a w :=
  wpIn_wide.2 (wp_label h)

/-- A new row of noughts. -/
def rowObj (n : Nat) : Obj := .cells (mapv (List.replicate n 0)).toArray 242
theorem run_make_limbs (W : World) (C : Int) (n : Nat) (hC : C = (n : Int)) (hn : n ≤ 100000) : (Instr.makeSlice 194 (.int .i64 C) (.int .i64 C)).run Tryz.prog W = .ok (.slice (some ⟨W.heap.size, 0, none⟩) n n) (W.alloc (rowObj n)) := by
  obtain ⟨i0, hi, hz0, hz1, hz2⟩ := info_parts info31
  subst hC
  have h := run_make (P := Tryz.prog) W 194 242 i0 (.int .u32 0) Tryz.underlying194 hi hz0 .i64 .i64 (n : Int) (n : Int) (by omega) (Int.le_refl _) (by rw [hz2]; omega) (by omega)
  rw [h, hz1, Int.toNat_natCast, Nat.mul_one, rowObj, ← made_eq]
  rfl

theorem Lm.putObj {W : World} {v : Value} {L : List Nat} (h : Lm W v L) {D : Nat} {o' : Obj} (hK : W.heap[D]? = some (.deferred (some []))) : Lm (W.putObj D o') v L := by
  rcases h with h | ⟨b, off, cap, rfl, hc, hlt, hcs⟩
  · exact .inl h
  · exact .inr ⟨b, off, cap, rfl, hc, by simpa [World.putObj] using hlt, fun j hj => cell_kept (hcs j hj) (grownBy_putObj' _ D _) (fun r e => by cases e; exact ⟨_, hK, rfl⟩)⟩

theorem boxed_off {W : World} {B : Nat} {t : TypeId} {v : Value} {p : Addr} (h : Boxed W B t v) (hne : B ≠ p.block) (u : Value) : Boxed (W.setCell p u).drew B t v := (Below.heap_setCell W p u B hne).trans h

theorem row_own (g : Nat) {β : Type} (f : β → List Nat) : Own (fun s W => Row W g (f s)) := fun _ A _ row hs hg hr =>
  hs.kept (hg.block g hs.lt (fun e => by obtain ⟨o, ho, hc⟩ := hr g e.symm; rw [show A.heap[g]? = _ from hs] at ho; cases ho; cases hc))

theorem read_no {l : List UInt8} {w w' : World} (h : isNat l = false) (hb : Below w.heap.size w w') : ReadPost l w (.returned (.tuple #[.slice none 0 0, .bool false])) w' := .inl ⟨h, rfl, hb⟩

set_option maxRecDepth 100000 in
set_option maxHeartbeats 4000000 in
theorem read_main (s : ByteArray) (w : World) (hg : Goes s) : Calls Tryz.prog 175 #[.string s] w (ReadPost s.data.toList w) := by
  obtain ⟨hs1, hs2, hz⟩ := hg
  obtain ⟨n, hn⟩ : ∃ n, n = (s.size + 8) / 9 := ⟨_, rfl⟩
  have hmk := fun W => run_make_limbs W (((s.size : Int) + 9 - 1) / 9) n (by rw [hn]; omega) (by omega)
  have hmx : Tryz.prog.follows .mixedOrders = true := by kernel_rfl
  have hE : s.toList.isEmpty = false := by rw [Lib.toList_data]; cases h : s.data.toList with | nil => (have := Lib.size_eq s; rw [h] at this; simp only [List.length_nil] at this; omega) | cons => rfl
  have hE2 : ¬ s.toList = [] := by intro h; rw [h] at hE; cases hE
  have h400 : decide ((400 : Int) < (s.size : Int)) = false := by simp; omega
  have hn9 : ∀ b, b < s.size → b / 9 < n := fun b hb => by omega
  have HN9 := Lib.hid hn9
  have HN := Lib.hid hn
  clear hn9 hn
  have hor : ((((s[0]'hs1).toNat : Int) == 48) = false ∧ ¬ (((s[0]'hs1).toNat : Int) = 48)) ∨ ((((s[0]'hs1).toNat : Int) == 48) = true ∧ (s.toList == [48]) = true) := by
    by_cases h : (byteAt s 0).toNat = 48
    · right
      rw [← byteAt_eq s 0 hs1, Lib.toList_data, hz h, h]
      exact ⟨rfl, rfl⟩
    · left
      rw [← byteAt_eq s 0 hs1]
      exact ⟨beq_eq_false_iff_ne.2 (by omega), by omega⟩
  have HZ := Lib.hid hz
  clear hz
  rcases hor with ⟨ho1, ho2⟩ | ⟨ho1, ho2⟩
  all_goals
    refine (callsIn_wide (n := 5)).1 ?_
    refine callsIn_of_wp_marks Tryz.func175 rfl trivial ?_ rfl
    simp only [Tryz.ntmps175, List.size_toArray, List.length_cons, List.length_nil, Nat.reduceAdd, Nat.reduceSub, Array.replicate_succ, Array.replicate_zero, List.push_toArray, List.append_toArray, List.nil_append, List.cons_append]
    gi_wp2
    refine scope_in ?_
    gi_wp2
    refine label_in ?_
    gi_wp2_with (refine ⟨trivial, ?_⟩; gi_at_call 207; refine (dig_in _ _ _).mono ?_; rintro e w' ⟨rfl, rfl⟩)
    obtain ⟨W0, hW0⟩ : ∃ W0, W0 = (((w.alloc (rowObj n)).alloc (.cells #[.slice (some ⟨w.heap.size, 0, none⟩) n n] 194)).alloc (.cells #[.bool true] 4)).alloc (.cells #[.string s] 9) := ⟨_, rfl⟩
    have hRow : Row W0 w.heap.size (List.replicate n 0) := by
      rw [hW0]
      exact (Below.heap_alloc _ _ _ (by simp; omega)).trans ((Below.heap_alloc _ _ _ (by simp; omega)).trans ((Below.heap_alloc _ _ _ (by simp)).trans (World.alloc_heap_new w _)))
    have bX : Boxed W0 (w.heap.size + 1) 194 (.slice (some ⟨w.heap.size, 0, none⟩) n n) := by
      have := Boxed.new (w.alloc (rowObj n)) 194 (.slice (some ⟨w.heap.size, 0, none⟩) n n)
      rw [World.size_alloc] at this
      rw [hW0]; exact (this.alloc _).alloc _
    have bR : Boxed W0 (w.heap.size + 1 + 1) 4 (.bool true) := by
      have := Boxed.new ((w.alloc (rowObj n)).alloc (.cells #[.slice (some ⟨w.heap.size, 0, none⟩) n n] 194)) 4 (.bool true)
      rw [World.size_alloc, World.size_alloc] at this
      rw [hW0]; exact this.alloc _
    have bS : Boxed W0 (w.heap.size + 1 + 1 + 1) 9 (.string s) := by
      have := Boxed.new (((w.alloc (rowObj n)).alloc (.cells #[.slice (some ⟨w.heap.size, 0, none⟩) n n] 194)).alloc (.cells #[.bool true] 4)) 9 (.string s)
      rw [World.size_alloc, World.size_alloc, World.size_alloc] at this
      rw [hW0]; exact this
    have hB0 : Below w.heap.size w W0 := by rw [hW0]; exact ((((Below.refl _ w).alloc (Nat.le_refl _) _).alloc (by simp) _).alloc (by simp; omega) _).alloc (by simp; omega) _
    have hs0 : W0.heap.size = w.heap.size + 4 := by rw [hW0]; simp
    rw [← hW0]
    have HS0 := Lib.hid hs0
    clear hW0 hs0 hmk ho1 ho2
    refine wpIn_rangeFunc_ownG rfl (by omega) (gf := 231) (lb := #[.pointer (some ⟨w.heap.size + 1 + 1 + 1, 0, none⟩)]) rfl trivial (enters_of Tryz.func231 (by kernel_rfl) rfl)
      (dig_stops (5 - 1) (by omega) (w.heap.size + 1 + 1 + 1) (fun k => k = w.heap.size + 1 + 1 + 1) s (by omega) _ (by rw [HS0.out]; omega) rfl bS.cell) Kpt.trans (Kpt.book (by rintro k rfl; rw [HS0.out]; omega)) (Below.refl _ _) (fun _ => rfl)
      (fun pre W => (((∀ p ∈ pre, p.1.2 ≤ 9) ∧ Row W w.heap.size (foldD n (pre.map (·.1)))) ∧ (Boxed W (w.heap.size + 1) 194 (.slice (some ⟨w.heap.size, 0, none⟩) n n) ∧ Boxed W (w.heap.size + 1 + 1) 4 (.bool true) ∧ Boxed W (w.heap.size + 1 + 1 + 1) 9 (.string s))) ∧ Below w.heap.size w W)
      (fun c pre W => ((c = .exit 0 ∧ ∃ ini last, pre = ini ++ [last] ∧ 9 < last.1.2) ∧ Boxed W (w.heap.size + 1 + 1) 4 (.bool false)) ∧ Below w.heap.size w W)
      (OwnFrom.and (OwnFrom.and (OwnFrom.and (ownFrom_pure _ _) (Own.from (row_own _ _) _)) (OwnFrom.and (Own.from (boxed_own _ _ _) _) (OwnFrom.and (Own.from (boxed_own _ _ _) _) (Own.from (boxed_own _ _ _) _)))) (ownFrom_below (Nat.le_refl _) (by rw [HS0.out]; omega)))
      (fun c => OwnFrom.and (OwnFrom.and (ownFrom_pure _ _) (Own.from (boxed_own _ _ _) _)) (ownFrom_below (Nat.le_refl _) (by rw [HS0.out]; omega)))
      ⟨⟨⟨by simp, hRow⟩, bX, bR, bS⟩, hB0⟩
      ?_ ?_ ?_ ?_ ?_
    rotate_left 1
    ·
      intro l x W K hK
      gi_wp2
      exact hK
    · rintro l pre x W ⟨⟨⟨hp, hrow⟩, hbX, hbR, hbS⟩, hB⟩ _
      have HP := Lib.hid hp
      have HRw := Lib.hid hrow
      have hcR := hbR.cell
      have hfR := hbR.frozen
      have hx2 := x.2.2
      by_cases hd : 9 < x.1.2
      · clear hp hrow
        gi_wp2
        exact ⟨(KeepsOthers.setCell _ _ _).from _, ⟨⟨rfl, pre, x, rfl, hd⟩, hbR.set _⟩, hB.setCell (p := ⟨w.heap.size + 1 + 1, 0, none⟩) (by simp; omega) _⟩
      · have hcX := hbX.cell
        have hi : x.1.1 / 9 < n := HN9.out _ x.2.1
        have hcell := hrow.cell (j := x.1.1 / 9) (by rw [foldD_length]; exact hi)
        have hfz := hrow.frozen (x.1.1 / 9)
        clear hp hrow
        gi_wp2
        have e9 : (x.1.1 : Int) / 9 = ((x.1.1 / 9 : Nat) : Int) := by omega
        rw [e9]
        clear e9
        obtain ⟨i, hie⟩ : ∃ i, i = x.1.1 / 9 := ⟨_, rfl⟩
        rw [← hie] at hi hcell hfz ⊢
        obtain ⟨X, hX⟩ : ∃ X, X = foldD n (pre.map (·.1)) := ⟨_, rfl⟩
        rw [← hX] at hcell
        have HI := Lib.hid hie
        have HX := Lib.hid hX
        have HB := Lib.hid hB
        have HbX := Lib.hid hbX
        have HbR := Lib.hid hbR
        have HbS := Lib.hid hbS
        clear hie hX hB hbX hbR hbS hcR hfR hRow bX bR bS hB0 hE hE2 h400 hs2
        refine region_tail_round 9 (by kernel_rfl) (by kernel_rfl) (by kernel_rfl) ?_ ?_
        · rintro ⟨_, _, h⟩; exact h
        simp only [List.take_succ_cons, List.take_zero, List.drop_succ_cons, List.drop_zero]
        repeat still_step
        try refine wpStill_nil ?_
        go_wp2
        have hRn := HRw.out.setI (x := ((lat X i : Int) * 10 % 4294967296 + (x.1.2 : Int)) % 4294967296) i ((lat X i * 10 % 4294967296 + x.1.2) % 4294967296) (by omega)
        refine ⟨((KeepsOthers.setCell _ _ _).trans (KeepsOthers.drew _)).from _, ⟨by simp [World.setCell, World.drew], ?_⟩, ⟨⟨?_, ?_⟩, boxed_off HbX.out (by simp only; omega) _, boxed_off HbR.out (by simp only; omega) _, boxed_off HbS.out (by simp only; omega) _⟩, (HB.out.setCell (p := ⟨w.heap.size, i, none⟩) (Nat.le_refl _) _).drew⟩
        · rintro k rfl
          exact Below.heap_setCell _ _ _ _ (by simp only; omega)
        · intro p hp
          rcases List.mem_append.1 hp with h | h
          · exact HP.out p h
          · simp at h; subst h; omega
        · rw [List.map_append, List.map_singleton, foldD_snoc, stepD, ← HX.out, ← HI.out]
          rw [← HX.out] at hRn
          exact hRn
    · rintro D ys W hD hys ⟨⟨⟨hp, hrow⟩, hbX, hbR, hbS⟩, hB⟩ hK
      rw [hys] at hrow
      have hdig : ∀ t, t < s.size → isD (byteAt s t) = true := fun t ht => by
        have hm : (s.size - 1 - t, dgt (byteAt s t)) ∈ ys.map (·.1) := by
          rw [hys]; simp only [digP, List.mem_map, List.mem_range]; exact ⟨t, ht, rfl⟩
        obtain ⟨p, hp1, he⟩ := List.mem_map.1 hm
        have := hp p hp1
        rw [he] at this
        exact dgt_le.1 this
      have HNat := Lib.hid ((isNat_iff s).2 ⟨⟨hs1, hs2, HZ.out⟩, hdig⟩)
      have HV := Lib.hid (rd_fin s n HN.out hdig)
      have HRw := Lib.hid hrow
      have hcR := hbR.cell
      have hcX := hbX.cell
      clear hp hrow hys hdig
      gi_wp2_with (fail)
      refine ⟨trivial, ?_⟩
      refine (callsIn_wide.2 (trim_calls _ (foldD n (digP s s.size)) W (by rw [foldD_length]; have := HN.out; omega) (by have := HRw.out.lm (cap := n) (by rw [foldD_length]; exact Nat.le_refl _); rw [foldD_length] at this; exact this))).mono ?_
      rintro e W2 ⟨v, rfl, hl2, hb2⟩
      gi_wp2
      have hK2 : W2.heap[D]? = some (.deferred (some [])) := (hb2.block D (Array.getElem?_eq_some_iff.1 hK).1).trans hK
      refine ⟨by simp, .inl ⟨_, _, rfl, run_takeDeferred hK2, ?_⟩⟩
      refine ⟨_, results_tmp2 rfl _ _ _, .inr ⟨HNat.out, _, v, rfl, hl2.putObj hK2, bd_trim HV.out.2, nm_trim _, by rw [val_trim, HV.out.1], ?_, (hB.trans (hb2.mono hB.size)).trans (belowK_b (w := w) (Nat.le_refl _) _ D _ _ (by rw [HS0.out] at hD; omega) hK2 rfl rfl)⟩⟩
      have h1 := length_trim (foldD n (digP s s.size))
      have h2 := HN.out
      rw [foldD_length] at h1
      omega
    · rintro D c pre W hD ⟨k, hk, hpre⟩ ⟨⟨⟨rfl, ini, last, e1, h9⟩, hbR⟩, hB⟩ hK
      have hno : isNat s.data.toList = false := by
        rw [Bool.eq_false_iff]
        intro hy
        have hall := ((isNat_iff s).1 hy).2
        have hm : last.1 ∈ digP s k := by rw [← hpre, e1]; simp
        simp only [digP, List.mem_map, List.mem_range] at hm
        obtain ⟨t, ht, he⟩ := hm
        have h1 := dgt_le.2 (hall t (by omega))
        rw [← he] at h9
        simp only at h9
        omega
      have HNat := Lib.hid hno
      have hcR := hbR.cell
      clear hno hpre e1 h9
      gi_wp2
      refine ⟨by simp, .inl ⟨_, _, rfl, run_takeDeferred hK, ?_⟩⟩
      refine ⟨_, results_tmp2 rfl _ _ _, ?_⟩
      exact read_no HNat.out (hB.trans (belowK_b (w := w) (Nat.le_refl _) _ D _ _ (by rw [HS0.out] at hD; omega) hK rfl rfl))

set_option maxRecDepth 100000 in
set_option maxHeartbeats 400000 in
theorem read_not (s : ByteArray) (w : World) (hg : ¬ Goes s) : Calls Tryz.prog 175 #[.string s] w (ReadPost s.data.toList w) := by
  have HNat : Hid (isNat s.data.toList = false) := by
    show isNat s.data.toList = false
    rw [Bool.eq_false_iff]
    intro h
    exact hg ((isNat_iff s).1 h).1
  by_cases h0 : s.size = 0
  · have hd : s.toList = [] := by rw [Lib.toList_data]; exact List.eq_nil_of_length_eq_zero (by rw [← Lib.size_eq]; exact h0)
    clear hg h0
    go_enter Tryz.func175, Tryz.ntmps175
    go_wp2
    go_step3
    go_wp2
    rw [Exit.noGoto_ret]
    go_ret2
    exact read_no HNat.out (Below.refl _ _)
  · have hE2 : ¬ s.toList = [] := by intro h; rw [Lib.toList_data] at h; have := Lib.size_eq s; rw [h, List.length_nil] at this; exact h0 this
    have hE : s.toList.isEmpty = false := by cases h : s.toList with | nil => exact absurd h hE2 | cons => rfl
    by_cases h4 : 400 < s.size
    · have h400 : decide ((400 : Int) < (s.size : Int)) = true := by simp; omega
      clear hg h0
      go_enter Tryz.func175, Tryz.ntmps175
      go_wp2
      go_step3
      go_wp2
      try rw [Exit.noGoto_ret]
      go_ret2
      exact read_no HNat.out (Below.refl _ _)
    · have h400 : decide ((400 : Int) < (s.size : Int)) = false := by simp; omega
      have hs1 : 0 < s.size := by omega
      have hz : (byteAt s 0).toNat = 48 ∧ ¬ s.data.toList = [48] := by
        refine ⟨?_, ?_⟩
        · refine Decidable.byContradiction fun h => hg ⟨hs1, by omega, fun e => absurd e h⟩
        · intro h; exact hg ⟨hs1, by omega, fun _ => h⟩
      have h48 : (((s[0]'hs1).toNat : Int) == 48) = true := by rw [← byteAt_eq s 0 hs1, hz.1]; rfl
      have hne : (s.toList == [48]) = false := by rw [Lib.toList_data]; exact beq_eq_false_iff_ne.2 hz.2
      clear hg h0 hz
      go_enter Tryz.func175, Tryz.ntmps175
      go_wp2
      go_step3
      go_wp2
      try rw [Exit.noGoto_ret]
      go_ret2
      exact read_no HNat.out (Below.refl _ _)

/-- read: the limbs of a natural; false, if the text is none. -/
theorem read_calls (s : ByteArray) (w : World) : Calls Tryz.prog 175 #[.string s] w (ReadPost s.data.toList w) := by
  by_cases h : Goes s
  · exact read_main s w h
  · exact read_not s w h
end Go.Proofs.YtppapkpceejnkaaGreatDoor

namespace Go.Proofs.YtppapkpceejnkaaGreatDoor
open Go.RowKit

/-- What read hands back of a natural. -/
def ReadYes (n : Nat) (w : World) (e : Ending) (w' : World) : Prop := ∃ R v, e = .returned (.tuple #[v, .bool true]) ∧ Lm w' v R ∧ Bd R ∧ Nm R ∧ val R = n ∧ R.length ≤ 45 ∧ Below w.heap.size w w'
theorem read_yes (s : ByteArray) (w : World) (h : isNat s.data.toList = true) : Calls Tryz.prog 175 #[.string s] w (ReadYes (dv s.data.toList) w) :=
  (read_calls s w).mono fun e w' hp => by
    rcases hp with ⟨h0, _⟩ | ⟨_, R, v, hh⟩
    · rw [h] at h0; cases h0
    · exact ⟨R, v, hh⟩
theorem read_none (s : ByteArray) (w : World) (h : isNat s.data.toList = false) : Calls Tryz.prog 175 #[.string s] w fun e w' => e = .returned (.tuple #[.slice none 0 0, .bool false]) ∧ Below w.heap.size w w' :=
  (read_calls s w).mono fun e w' hp => by
    rcases hp with ⟨_, hh⟩ | ⟨h1, _⟩
    · exact hh
    · rw [h] at h1; cases h1

def AllYes (a b : Nat) (w : World) (e : Ending) (w' : World) : Prop := ∃ g cap, 2 ≤ cap ∧ e = .returned (.tuple #[.slice (some ⟨g, 0, none⟩) 2 cap, .bool true]) ∧ Two a b g w' ∧ Below w.heap.size w w'

theorem info50 : (Tryz.prog.info? 194).map (fun i => (i.zero, i.size, i.bytes)) = some (some (.slice none 0 0), 1, 24) := by kernel_rfl

/-- Block g holds two slices. -/
def Pair (W : World) (g : Nat) (v0 v1 : Value) : Prop := W.heap[g]? = some (.cells #[v0, v1] 194 (0, 0))
theorem Pair.lt {W : World} {g : Nat} {v0 v1 : Value} (h : Pair W g v0 v1) : g < W.heap.size := (Array.getElem?_eq_some_iff.1 h).1
theorem Pair.cell0 {W : World} {g : Nat} {v0 v1 : Value} (h : Pair W g v0 v1) : W.cell? ⟨g, 0, none⟩ = some v0 := by simp [World.cell?, show W.heap[g]? = _ from h]
theorem Pair.cell1 {W : World} {g : Nat} {v0 v1 : Value} (h : Pair W g v0 v1) : W.cell? ⟨g, 1, none⟩ = some v1 := by simp [World.cell?, show W.heap[g]? = _ from h]
theorem Pair.frozen {W : World} {g : Nat} {v0 v1 : Value} (h : Pair W g v0 v1) (j : Nat) : W.frozen? ⟨g, j, none⟩ = false := by simp [World.frozen?, show W.heap[g]? = _ from h]
theorem Pair.set0 {W : World} {g : Nat} {v0 v1 : Value} (h : Pair W g v0 v1) (u : Value) : Pair (W.setCell ⟨g, 0, none⟩ u) g u v1 := by
  obtain ⟨hlt, hk⟩ := Array.getElem?_eq_some_iff.1 h
  show (W.heap.modify g _)[g]? = _
  rw [Array.getElem?_eq_getElem (by rw [Array.size_modify]; exact hlt), Array.getElem_modify_self, hk]
  rfl
theorem Pair.set1 {W : World} {g : Nat} {v0 v1 : Value} (h : Pair W g v0 v1) (u : Value) : Pair (W.setCell ⟨g, 1, none⟩ u) g v0 u := by
  obtain ⟨hlt, hk⟩ := Array.getElem?_eq_some_iff.1 h
  show (W.heap.modify g _)[g]? = _
  rw [Array.getElem?_eq_getElem (by rw [Array.size_modify]; exact hlt), Array.getElem_modify_self, hk]
  rfl

theorem Lm.setCell {W : World} {v : Value} {L : List Nat} (h : Lm W v L) {p : Addr} {a : Option Addr} {n c : Nat} (hp : W.cell? p = some (.slice a n c)) (u : Value) : Lm (W.setCell p u) v L := by
  rcases h with h | ⟨b, off, cap, rfl, hc, hlt, hcs⟩
  · exact .inl h
  · refine .inr ⟨b, off, cap, rfl, hc, by simpa [World.setCell] using hlt, fun j hj => ?_⟩
    rw [World.cell?_setCell_other _ _ _ _ (fun e => by rw [e, hcs j hj] at hp; cases hp)]
    exact hcs j hj

set_option maxRecDepth 100000 in
set_option maxHeartbeats 1000000 in
theorem readAll_yes (sa sb : ByteArray) (bt : Nat) (w : World) (hbt : bt < w.heap.size) (h0 : w.cell? ⟨bt, 0, none⟩ = some (.string sa)) (h1 : w.cell? ⟨bt, 1, none⟩ = some (.string sb))
    (ha : isNat sa.data.toList = true) (hb : isNat sb.data.toList = true) :
    Calls Tryz.prog 135 #[.slice (some ⟨bt, 0, none⟩) 2 2] w (AllYes (dv sa.data.toList) (dv sb.data.toList) w) := by
  have hmk : ∀ w, (Instr.makeSlice 189 (.int .i64 0) (.int .i64 2)).run Tryz.prog w = .ok (.slice (some ⟨w.heap.size, 0, none⟩) 0 2) (w.alloc (.cells #[.slice none 0 0, .slice none 0 0] 194)) := fun _ => by kernel_rfl
  obtain ⟨i0, hi, hz0, hz1, hz2⟩ := info_parts info50
  have HA := Lib.hid ha
  have HB := Lib.hid hb
  have HI := Lib.hid hi
  have HZ := Lib.hid hz1
  clear ha hb hi hz0 hz1 hz2
  go_enter Tryz.func135, Tryz.ntmps135
  go_wp2
  go_step3
  go_wp2
  refine wp_loop_rounds 3 ?_
  rw [rounds_succ]
  go_wp2_with (first
    | (go_at_call 175; (with_reducible refine (read_yes _ _ HA.out).mono ?_); rintro e w1 ⟨R1, v1, rfl, hl1, hd1, hn1, hv1, hr1, hb1⟩; obtain ⟨a1, c1, rfl⟩ := hl1.shape; have HL1 := Lib.hid hl1; have HV1 := Lib.hid hv1; have hp1 : Pair w1 w.heap.size (.slice none 0 0) (.slice none 0 0) := (hb1.block _ (by simp)).trans (World.alloc_heap_new w _); have hc1 := hp1.cell0; have hf1 := hp1.frozen 0; have hs1 := hp1.lt; have HP1 := Lib.hid hp1; clear hl1 hv1 hp1))
  obtain ⟨W2, hW2⟩ : ∃ W2, W2 = (w1.setCell ⟨w.heap.size, 0, none⟩ (.slice a1 R1.length c1)).alloc (.cells #[.slice a1 R1.length c1] 194) := ⟨_, rfl⟩
  have hz2 : (w1.setCell ⟨w.heap.size, 0, none⟩ (.slice a1 R1.length c1)).heap.size = w1.heap.size := by simp [World.setCell]
  have hb2 : Below w.heap.size w W2 := by
    rw [hW2]
    exact ((((Below.refl _ w).alloc (Nat.le_refl _) _).trans (hb1.mono (by simp))).setCell (p := ⟨w.heap.size, 0, none⟩) (Nat.le_refl _) _).alloc (by rw [hz2]; omega) _
  have hp2 : Pair W2 w.heap.size (.slice a1 R1.length c1) (.slice none 0 0) := by rw [hW2]; exact (Below.heap_alloc _ _ _ (by rw [hz2]; exact hs1)).trans (HP1.out.set0 _)
  have hl2 : Lm W2 (.slice a1 R1.length c1) R1 := by rw [hW2]; exact (HL1.out.setCell hc1 _).below ((Below.refl _ _).alloc (Nat.le_refl _) _)
  rw [← hW2]
  have hb20 := (hb2.cell (p := ⟨bt, 1, none⟩) hbt).trans h1
  have HP2 := Lib.hid hp2
  have HL2 := Lib.hid hl2
  have HB2 := Lib.hid hb2
  clear hW2 hz2 hb1 hc1 hf1 hs1 HP1 HL1 hb2 hp2 hl2 h0 h1
  rw [rounds_succ]
  go_wp2_with (first
    | (go_at_call 175; (with_reducible refine (read_yes _ _ HB.out).mono ?_); rintro e w3 ⟨R2, v2, rfl, hl3, hd2, hn2, hv2, hr2, hb3⟩; obtain ⟨a2, c2, rfl⟩ := hl3.shape; have HL3 := Lib.hid hl3; have HV2 := Lib.hid hv2; have hp3 : Pair w3 w.heap.size (.slice a1 R1.length c1) (.slice none 0 0) := (hb3.block _ HP2.out.lt).trans HP2.out; have hc3 := hp3.cell1; have hf3 := hp3.frozen 1; have hs3 := hp3.lt; have HP3 := Lib.hid hp3; have HL4 := Lib.hid (HL2.out.below hb3); clear hl3 hv2 hp3))
  rw [rounds_succ]
  go_wp2
  rw [Exit.noGoto_ret]
  go_ret2
  have hz3 : (w3.setCell ⟨w.heap.size, 1, none⟩ (.slice a2 R2.length c2)).heap.size = w3.heap.size := by simp [World.setCell]
  have hal : Below w3.heap.size (w3.setCell ⟨w.heap.size, 1, none⟩ (.slice a2 R2.length c2)) ((w3.setCell ⟨w.heap.size, 1, none⟩ (.slice a2 R2.length c2)).alloc (.cells #[.slice a2 R2.length c2] 194)) := (Below.refl _ _).alloc (by rw [hz3]; exact Nat.le_refl _) _
  have hp4 : Pair ((w3.setCell ⟨w.heap.size, 1, none⟩ (.slice a2 R2.length c2)).alloc (.cells #[.slice a2 R2.length c2] 194)) w.heap.size (.slice a1 R1.length c1) (.slice a2 R2.length c2) := (Below.heap_alloc _ _ _ (by rw [hz3]; exact hs3)).trans (HP3.out.set1 _)
  rw [← hz3] at hal
  refine ⟨w.heap.size, 2, Nat.le_refl _, rfl, ⟨R1, _, R2, _, hp4.cell0, hp4.cell1, hp4.lt, ⟨(HL4.out.setCell hc3 _).below hal, hd1, hn1, HV1.out, hr1⟩, ⟨(HL3.out.setCell hc3 _).below hal, hd2, hn2, HV2.out, hr2⟩⟩, ?_⟩
  exact ((HB2.out.trans (hb3.mono HB2.out.size)).setCell (p := ⟨w.heap.size, 1, none⟩) (Nat.le_refl _) _).alloc (by rw [hz3]; omega) _

theorem jump_ret (l : Nat) (J : Act → World → Prop) (Q : Exit → Act → World → Prop) (a : Act) (w : World) : Exit.jump l J Q .ret a w = Q .ret a w := rfl

/-- Where readAll jumps: nothing old has turned. -/
def Jumps (w : World) (a : Act) (w' : World) : Prop := (∃ u0 u1 u2 u3 u4 u5 u6 u7 u8 u9 u10 u11 u12 u13 u14 u15 u16 u17 u18 u19 u20 u21 u22 u23 u24 u25 u26 u27 u28 u29 u30 : Value, a = { tmps := #[u0, u1, u2, u3, u4, u5, u6, u7, u8, u9, u10, u11, u12, u13, u14, u15, u16, u17, u18, u19, u20, u21, u22, u23, u24, u25, u26, u27, u28, u29, u30], defers := [] }) ∧ Below w.heap.size w w'

set_option maxRecDepth 100000 in
set_option maxHeartbeats 1000000 in
theorem readAll_no (sa sb : ByteArray) (bt : Nat) (w : World) (hbt : bt < w.heap.size) (h0 : w.cell? ⟨bt, 0, none⟩ = some (.string sa)) (h1 : w.cell? ⟨bt, 1, none⟩ = some (.string sb))
    (hab : (isNat sa.data.toList && isNat sb.data.toList) = false) :
    Calls Tryz.prog 135 #[.slice (some ⟨bt, 0, none⟩) 2 2] w fun e w' => e = .returned (.tuple #[.slice none 0 0, .bool false]) ∧ Below w.heap.size w w' := by
  have hmk : ∀ w, (Instr.makeSlice 189 (.int .i64 0) (.int .i64 2)).run Tryz.prog w = .ok (.slice (some ⟨w.heap.size, 0, none⟩) 0 2) (w.alloc (.cells #[.slice none 0 0, .slice none 0 0] 194)) := fun _ => by kernel_rfl
  go_enter Tryz.func135, Tryz.ntmps135
  go_wp2
  refine wp_scope_jumps 0 (Jumps w) (fun _ _ => 0) rfl ?first ?pass
  case pass =>
    rintro a w' ⟨⟨u0, u1, u2, u3, u4, u5, u6, u7, u8, u9, u10, u11, u12, u13, u14, u15, u16, u17, u18, u19, u20, u21, u22, u23, u24, u25, u26, u27, u28, u29, u30, rfl⟩, hb⟩
    go_wp2
    rw [jump_ret]
    go_wp2
    go_ret2
    exact ⟨rfl, hb⟩
  case first =>
    by_cases ha : isNat sa.data.toList = true
    · have hb : isNat sb.data.toList = false := by rw [ha] at hab; simpa using hab
      have HA := Lib.hid ha
      have HB := Lib.hid hb
      clear ha hb hab
      go_wp2
      refine wp_loop_rounds 2 ?_
      rw [rounds_succ]
      go_wp2_with (first
        | (go_at_call 175; (with_reducible refine (read_yes _ _ HA.out).mono ?_); rintro e w1 ⟨R1, v1, rfl, hl1, _, _, _, _, hb1⟩; obtain ⟨a1, c1, rfl⟩ := hl1.shape; have hp1 : Pair w1 w.heap.size (.slice none 0 0) (.slice none 0 0) := (hb1.block _ (by simp)).trans (World.alloc_heap_new w _); have hc1 := hp1.cell0; have hf1 := hp1.frozen 0; have hs1 := hp1.lt; clear hl1 hp1))
      obtain ⟨W2, hW2⟩ : ∃ W2, W2 = (w1.setCell ⟨w.heap.size, 0, none⟩ (.slice a1 R1.length c1)).alloc (.cells #[.slice a1 R1.length c1] 194) := ⟨_, rfl⟩
      have hz2 : (w1.setCell ⟨w.heap.size, 0, none⟩ (.slice a1 R1.length c1)).heap.size = w1.heap.size := by simp [World.setCell]
      have hb2 : Below w.heap.size w W2 := by
        rw [hW2]
        exact ((((Below.refl _ w).alloc (Nat.le_refl _) _).trans (hb1.mono (by simp))).setCell (p := ⟨w.heap.size, 0, none⟩) (Nat.le_refl _) _).alloc (by rw [hz2]; omega) _
      rw [← hW2]
      have hb20 := (hb2.cell (p := ⟨bt, 1, none⟩) hbt).trans h1
      have HB2 := Lib.hid hb2
      clear hW2 hz2 hb1 hc1 hf1 hs1 hb2 h0 h1
      rw [rounds_succ]
      go_wp2_with (first
        | (go_at_call 175; (with_reducible refine (read_none _ _ HB.out).mono ?_); rintro e w3 ⟨rfl, hb3⟩))
      go_step3
      exact ⟨rfl, ⟨_, _, _, _, _, _, _, _, _, _, _, _, _, _, _, _, _, _, _, _, _, _, _, _, _, _, _, _, _, _, _, rfl⟩, HB2.out.trans (hb3.mono HB2.out.size)⟩
    · have ha' : isNat sa.data.toList = false := by simpa using ha
      have HA := Lib.hid ha'
      clear ha ha' hab
      go_wp2
      refine wp_loop_rounds 1 ?_
      rw [rounds_succ]
      go_wp2_with (first
        | (go_at_call 175; (with_reducible refine (read_none _ _ HA.out).mono ?_); rintro e w3 ⟨rfl, hb3⟩))
      go_step3
      exact ⟨rfl, ⟨_, _, _, _, _, _, _, _, _, _, _, _, _, _, _, _, _, _, _, _, _, _, _, _, _, _, _, _, _, _, _, rfl⟩, ((Below.refl _ w).alloc (Nat.le_refl _) _).trans (hb3.mono (by simp))⟩
end Go.Proofs.YtppapkpceejnkaaGreatDoor

namespace Go.Proofs.YtppapkpceejnkaaGreatDoor
open Go.RowKit
open Go.Lib (decDigits nDigits)

set_option maxRecDepth 100000 in
set_option maxHeartbeats 1000000 in
theorem Right_yes (s : ByteArray) (w : World) (h : isNat s.data.toList = true) : Calls Tryz.prog 142 #[.string s] w fun e w' => e = .returned (.bool true) ∧ Below w.heap.size w w' := by
  have HA := Lib.hid h
  clear h
  go_enter Tryz.func142, Tryz.ntmps142
  go_wp2_with (go_at_call 175; refine (read_yes _ _ HA.out).mono ?_; rintro e w1 ⟨R1, v1, rfl, hl1, hd1', hn1, hv1, hr1, hb1⟩; clear hl1 hv1)
  go_ret
  exact ⟨rfl, hb1⟩

set_option maxRecDepth 100000 in
set_option maxHeartbeats 1000000 in
theorem Right_no (s : ByteArray) (w : World) (h : isNat s.data.toList = false) : Calls Tryz.prog 142 #[.string s] w fun e w' => e = .returned (.bool false) ∧ Below w.heap.size w w' := by
  have HA := Lib.hid h
  clear h
  go_enter Tryz.func142, Tryz.ntmps142
  go_wp2_with (go_at_call 175; refine (read_none _ _ HA.out).mono ?_; rintro e w1 ⟨rfl, hb1⟩)
  go_ret
  exact ⟨rfl, hb1⟩
/-- nat's Right, of what a text is. -/
theorem natR_calls (s : ByteArray) (b : Bool) (w : World) (h : isNat s.data.toList = b) : Calls Tryz.prog 142 #[.string s] w fun e w' => e = .returned (.bool b) ∧ Below w.heap.size w w' := by
  cases b
  · exact Right_no s w h
  · exact Right_yes s w h
end Go.Proofs.YtppapkpceejnkaaGreatDoor
