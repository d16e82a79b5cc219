/- Trees: what they are, and how they lie in memory. The document's own: Count. The laws' own: Cut. The iterator through: what it hands on, and the walk of descend. A node as an argument, opened. The program's own: isJust. -/
import Derived.Test.YtppapkpceejnkaaGreatDoorProg
import Derived.WalkKit
import Derived.WalkSpells
import Derived.WalkLawsBesides
import Derived.WalkMore
import Derived.Lib.Hide
import Derived.Lib.Strings
import Derived.Below
import Derived.LoopN
import Derived.Laws.AppendOwn
import Derived.RangeFuncKeeps
import Derived.RangeFuncWrites
import Derived.RangeFuncNested
import Derived.RangeFuncBound
import Derived.LoopNIn
import Derived.LoopIn
import Derived.OwnWalkIn
import Derived.TacticsInMore
import Derived.ChangeArms
import Derived.WideShapes
import Derived.Lib.LaidTab
import Derived.Deep.QuietTactic
import Derived.BigQuiet

namespace Go.Proofs.YtppapkpceejnkaaGreatDoor
open Go.RowKit

/-- What a node has, its list aside. -/
structure Hd where
  kind : Int
  b : Bool
  neg : Bool
  dig : ByteArray
  exp : Int
  u : Nat
  w : Int
  s : ByteArray
/-- Nodes one behind the other: the first one, those of its list, the others. -/
inductive Fo where
  | nil : Fo
  | cons (h : Hd) (k r : Fo) : Fo

/-- A node's cells. -/
def Hd.cells (h : Hd) (l : Value) : Array Value := #[.int .i64 h.kind, .bool h.b, .bool h.neg, .string h.dig, .int .i64 h.exp, .int .u64 (h.u : Int), .int .i64 h.w, .string h.s, l]

def Fo.len : Fo → Nat
  | .nil => 0
  | .cons _ _ r => r.len + 1
/-- How many nodes. -/
def Fo.cnt : Fo → Nat
  | .nil => 0
  | .cons _ k r => 1 + k.cnt + r.cnt
/-- How deep. -/
def Fo.deep : Fo → Nat
  | .nil => 0
  | .cons _ k r => max (k.deep + 1) r.deep
def Fo.drop : Nat → Fo → Fo
  | 0, f => f
  | _ + 1, .nil => .nil
  | n + 1, .cons _ _ r => r.drop n

def Cells (W : World) (B o : Nat) (cs : Array Value) : Prop := ∀ (i : Nat) v, cs[i]? = some v → W.cell? ⟨B, o + i, none⟩ = some v

/-- Nodes lie in memory from a place on; the lists of those within lie in blocks of which P is true. -/
def Lies (P : Nat → Prop) (W : World) : Fo → Nat → Nat → Prop
  | .nil, _, _ => True
  | .cons h k r, B, o => (∃ v, Cells W B o (h.cells v) ∧ ((∃ A c, v = .slice A 0 c ∧ k = .nil) ∨ ∃ b o' c, v = .slice (some ⟨b, o', none⟩) k.len c ∧ k.len ≤ c ∧ k.len < 9223372036854775808 ∧ b < W.heap.size ∧ P b ∧ Lies P W k b o')) ∧ h.u < 18446744073709551616 ∧ Lies P W r B (o + 9)
/-- A list's value. -/
def Kd (P : Nat → Prop) (W : World) (v : Value) (k : Fo) : Prop := (∃ A c, v = .slice A 0 c ∧ k = .nil) ∨ ∃ b o c, v = .slice (some ⟨b, o, none⟩) k.len c ∧ k.len ≤ c ∧ k.len < 9223372036854775808 ∧ b < W.heap.size ∧ P b ∧ Lies P W k b o
/-- Wherever. -/
abbrev An : Nat → Prop := fun _ => True
theorem lies_cons {P : Nat → Prop} {W : World} {h : Hd} {k r : Fo} {B o : Nat} : Lies P W (.cons h k r) B o ↔ (∃ v, Cells W B o (h.cells v) ∧ Kd P W v k) ∧ h.u < 18446744073709551616 ∧ Lies P W r B (o + 9) := Iff.rfl

theorem lt_of_cell0 {w : World} {b o : Nat} {v : Value} (h : w.cell? ⟨b, o, none⟩ = some v) : b < w.heap.size := by
  rcases Nat.lt_or_ge b w.heap.size with h1 | h1
  · exact h1
  · simp [World.cell?, Array.getElem?_eq_none h1] at h
theorem cell_of_block {W W' : World} {B i : Nat} (h : W'.heap[B]? = W.heap[B]?) : W'.cell? ⟨B, i, none⟩ = W.cell? ⟨B, i, none⟩ := by simp [World.cell?, h]
theorem Cells.kept {W W' : World} {B o : Nat} {cs : Array Value} (h : Cells W B o cs) (hb : W'.heap[B]? = W.heap[B]?) : Cells W' B o cs := fun i v hi => (cell_of_block hb).trans (h i v hi)
theorem Lies.kept {P : Nat → Prop} {W W' : World} (hs : W.heap.size ≤ W'.heap.size) (hb : ∀ b, P b → b < W.heap.size → W'.heap[b]? = W.heap[b]?) : ∀ {f : Fo} {B o : Nat}, W'.heap[B]? = W.heap[B]? → Lies P W f B o → Lies P W' f B o
  | .nil, _, _, _, _ => trivial
  | .cons _ _ _, _, _, e, ⟨⟨v, hc, hk⟩, hu, hr⟩ => ⟨⟨v, hc.kept e, hk.imp id fun ⟨b, o', c, h1, h2, h5, h3, h6, h4⟩ => ⟨b, o', c, h1, h2, h5, Nat.lt_of_lt_of_le h3 hs, h6, Lies.kept hs hb (hb b h6 h3) h4⟩⟩, hu, Lies.kept hs hb e hr⟩
theorem Kd.kept {P : Nat → Prop} {W W' : World} {v : Value} {k : Fo} (h : Kd P W v k) (hs : W.heap.size ≤ W'.heap.size) (hb : ∀ b, P b → b < W.heap.size → W'.heap[b]? = W.heap[b]?) : Kd P W' v k :=
  h.imp id fun ⟨b, o', c, h1, h2, h5, h3, h6, h4⟩ => ⟨b, o', c, h1, h2, h5, Nat.lt_of_lt_of_le h3 hs, h6, Lies.kept hs hb (hb b h6 h3) h4⟩
theorem Lies.mono {P Q : Nat → Prop} {W : World} (hP : ∀ b, P b → b < W.heap.size → Q b) : ∀ {f : Fo} {B o : Nat}, Lies P W f B o → Lies Q W f B o
  | .nil, _, _, _ => trivial
  | .cons _ _ _, _, _, ⟨⟨v, hc, hk⟩, hu, hr⟩ => ⟨⟨v, hc, hk.imp id fun ⟨b, o', c, h1, h2, h5, h3, h6, h4⟩ => ⟨b, o', c, h1, h2, h5, h3, hP b h6 h3, Lies.mono hP h4⟩⟩, hu, Lies.mono hP hr⟩
theorem Kd.mono {P Q : Nat → Prop} {W : World} {v : Value} {k : Fo} (h : Kd P W v k) (hP : ∀ b, P b → b < W.heap.size → Q b) : Kd Q W v k :=
  h.imp id fun ⟨b, o', c, h1, h2, h5, h3, h6, h4⟩ => ⟨b, o', c, h1, h2, h5, h3, hP b h6 h3, Lies.mono hP h4⟩
theorem Kd.below {P : Nat → Prop} {W W' : World} {v : Value} {k : Fo} (h : Kd P W v k) (hb : Below W.heap.size W W') : Kd P W' v k := h.kept hb.size (fun b _ hl => hb.block b hl)
theorem Cells.below {W W' : World} {B o : Nat} {cs : Array Value} (h : Cells W B o cs) (hb : Below W.heap.size W W') : Cells W' B o cs := fun i v hi =>
  have h1 := h i v hi
  (hb.cell (p := ⟨B, o + i, none⟩) (lt_of_cell0 h1)).trans h1
theorem Lies.below {P : Nat → Prop} {W W' : World} {f : Fo} {B o : Nat} (h : Lies P W f B o) (hb : Below W.heap.size W W') (hB : B < W.heap.size) : Lies P W' f B o := Lies.kept hb.size (fun b _ hl => hb.block b hl) (hb.block B hB) h

theorem drop_len : ∀ (i : Nat) (f : Fo), (f.drop i).len = f.len - i
  | 0, _ => rfl
  | _ + 1, .nil => by simp [Fo.drop, Fo.len]
  | i + 1, .cons _ _ r => by simp only [Fo.drop, Fo.len]; rw [drop_len i r]; omega
theorem drop_cnt : ∀ (i : Nat) (f : Fo), (f.drop i).cnt ≤ f.cnt
  | 0, _ => Nat.le_refl _
  | _ + 1, .nil => Nat.le_refl _
  | i + 1, .cons _ _ r => by simp only [Fo.drop, Fo.cnt]; have := drop_cnt i r; omega
theorem drop_succ : ∀ (i : Nat) (f : Fo) {h : Hd} {k r : Fo}, f.drop i = .cons h k r → f.drop (i + 1) = r
  | 0, .cons _ _ _, _, _, _, e => by cases e; rfl
  | 0, .nil, _, _, _, e => by cases e
  | _ + 1, .nil, _, _, _, e => by cases e
  | i + 1, .cons _ _ r, _, _, _, e => by
    have := drop_succ i r e
    exact this
theorem drop_cons {i : Nat} {f : Fo} (h : i < f.len) : ∃ hd k r, f.drop i = .cons hd k r := by
  have hl := drop_len i f
  cases hf : f.drop i with
  | nil => rw [hf] at hl; simp [Fo.len] at hl; omega
  | cons hd k r => exact ⟨hd, k, r, rfl⟩
theorem drop_end {f : Fo} : f.drop f.len = .nil := by
  have hl := drop_len f.len f
  cases hf : f.drop f.len with
  | nil => rfl
  | cons hd k r => rw [hf] at hl; simp [Fo.len] at hl
theorem lies_drop {P : Nat → Prop} {W : World} : ∀ (i : Nat) {f : Fo} {B o : Nat}, Lies P W f B o → Lies P W (f.drop i) B (o + i * 9)
  | 0, _, _, _, h => by rw [Nat.zero_mul]; exact h
  | _ + 1, .nil, _, _, _ => trivial
  | i + 1, .cons _ _ r, B, o, h => by
    have := lies_drop i h.2.2
    rw [show o + (i + 1) * 9 = o + 9 + i * 9 by omega]
    exact this
theorem len_cnt : ∀ (f : Fo), f.len ≤ f.cnt
  | .nil => Nat.le_refl _
  | .cons _ k r => by simp only [Fo.len, Fo.cnt]; have := len_cnt r; omega
/-- A block that was laid for a variable. -/
def Bx (W : World) (B : Nat) (cs : Array Value) (T : TypeId) : Prop := W.heap[B]? = some (.cells cs T (0, 0))
section
variable {W W' : World} {B : Nat} {cs : Array Value} {T : TypeId}
theorem Bx.lt (h : Bx W B cs T) : B < W.heap.size := (Array.getElem?_eq_some_iff.1 h).1
theorem Bx.c (h : Bx W B cs T) (i : Nat) {v : Value} (hv : cs[i]? = some v) : W.cell? ⟨B, i, none⟩ = some v := by simp [World.cell?, show W.heap[B]? = _ from h, hv]
theorem Bx.f (h : Bx W B cs T) (i : Nat) : W.frozen? ⟨B, i, none⟩ = false := frozen_of_row W B i _ _ h
theorem Bx.below (h : Bx W B cs T) (hb : Below W.heap.size W W') : Bx W' B cs T := (hb.block B h.lt).trans h
theorem Bx.drew (h : Bx W B cs T) : Bx W.drew B cs T := h
theorem Bx.off {C i : Nat} {v : Value} (h : Bx W B cs T) (hne : B ≠ C) : Bx (W.setCell ⟨C, i, none⟩ v) B cs T := (heap_setCell_other W ⟨C, i, none⟩ B _ hne).trans h
theorem Bx.alloc (h : Bx W B cs T) (o : Obj) : Bx (W.alloc o) B cs T := h.below ((Below.refl _ W).alloc (Nat.le_refl _) o)
theorem Bx.set (h : Bx W B cs T) (i : Nat) (v : Value) : Bx (W.setCell ⟨B, i, none⟩ v) B (cs.setIfInBounds i v) T := heap_setCell_same W B i _ _ v h
end
theorem Bx.new (W : World) (cs : Array Value) (T : TypeId) : Bx (W.alloc (.cells cs T)) W.heap.size cs T := heap_alloc_new W _
theorem below_nx {w W W' : World} (h : Below w.heap.size w W) (hb : Below W.heap.size W W') : Below w.heap.size w W' := h.trans (hb.mono h.size)
theorem below_a {w W : World} (h : Below w.heap.size w W) (o : Obj) : Below w.heap.size w (W.alloc o) := h.alloc h.size o
/-- What a walk sees of a list. -/
theorem Kd.form {P : Nat → Prop} {W : World} {v : Value} {k : Fo} (h : Kd P W v k) : ∃ A c, v = .slice A k.len c ∧ k.len ≤ c ∧ k.len < 9223372036854775808 ∧ (k.len ≠ 0 → ∃ B o, A = some ⟨B, o, none⟩ ∧ B < W.heap.size ∧ P B ∧ Lies P W k B o) := by
  rcases h with ⟨A, c, rfl, rfl⟩ | ⟨b, o, c, rfl, h1, h5, h2, h6, h3⟩
  · exact ⟨A, c, rfl, Nat.zero_le _, by decide, fun h => absurd rfl h⟩
  · exact ⟨_, c, rfl, h1, h5, fun _ => ⟨b, o, rfl, h2, h6, h3⟩⟩
/-- The nine cells of a node that lies at a place. -/
theorem Cells.nine {W : World} {B o : Nat} {h : Hd} {v : Value} (hc : Cells W B o (h.cells v)) :
    W.cell? ⟨B, o, none⟩ = some (.int .i64 h.kind) ∧ W.cell? ⟨B, o + 1, none⟩ = some (.bool h.b) ∧ W.cell? ⟨B, o + 2, none⟩ = some (.bool h.neg) ∧ W.cell? ⟨B, o + 3, none⟩ = some (.string h.dig) ∧ W.cell? ⟨B, o + 4, none⟩ = some (.int .i64 h.exp) ∧ W.cell? ⟨B, o + 5, none⟩ = some (.int .u64 (h.u : Int)) ∧ W.cell? ⟨B, o + 6, none⟩ = some (.int .i64 h.w) ∧ W.cell? ⟨B, o + 7, none⟩ = some (.string h.s) ∧ W.cell? ⟨B, o + 8, none⟩ = some v :=
  ⟨hc 0 _ rfl, hc 1 _ rfl, hc 2 _ rfl, hc 3 _ rfl, hc 4 _ rfl, hc 5 _ rfl, hc 6 _ rfl, hc 7 _ rfl, hc 8 _ rfl⟩
/-- The block of a node. -/
def Nx (W : World) (B : Nat) (h : Hd) (v : Value) : Prop := Bx W B (h.cells v) 28
theorem Nx.nine {W : World} {B : Nat} {h : Hd} {v : Value} (hc : Nx W B h v) :
    W.cell? ⟨B, 0, none⟩ = some (.int .i64 h.kind) ∧ W.cell? ⟨B, 1, none⟩ = some (.bool h.b) ∧ W.cell? ⟨B, 2, none⟩ = some (.bool h.neg) ∧ W.cell? ⟨B, 3, none⟩ = some (.string h.dig) ∧ W.cell? ⟨B, 4, none⟩ = some (.int .i64 h.exp) ∧ W.cell? ⟨B, 5, none⟩ = some (.int .u64 (h.u : Int)) ∧ W.cell? ⟨B, 6, none⟩ = some (.int .i64 h.w) ∧ W.cell? ⟨B, 7, none⟩ = some (.string h.s) ∧ W.cell? ⟨B, 8, none⟩ = some v :=
  ⟨Bx.c hc 0 rfl, Bx.c hc 1 rfl, Bx.c hc 2 rfl, Bx.c hc 3 rfl, Bx.c hc 4 rfl, Bx.c hc 5 rfl, Bx.c hc 6 rfl, Bx.c hc 7 rfl, Bx.c hc 8 rfl⟩
theorem Nx.c8 {W : World} {B : Nat} {h : Hd} {v : Value} (hc : Nx W B h v) : W.cell? ⟨B, 8, none⟩ = some v := hc.nine.2.2.2.2.2.2.2.2
theorem Nx.lt {W : World} {B : Nat} {h : Hd} {v : Value} (hc : Nx W B h v) : B < W.heap.size := Bx.lt hc
theorem Nx.below {W W' : World} {B : Nat} {h : Hd} {v : Value} (hc : Nx W B h v) (hb : Below W.heap.size W W') : Nx W' B h v := Bx.below hc hb
theorem Nx.alloc {W : World} {B : Nat} {h : Hd} {v : Value} (hc : Nx W B h v) (o : Obj) : Nx (W.alloc o) B h v := Bx.alloc hc o
theorem Nx.drew {W : World} {B : Nat} {h : Hd} {v : Value} (hc : Nx W B h v) : Nx W.drew B h v := hc
theorem Nx.off {W : World} {B C i : Nat} {h : Hd} {v x : Value} (hc : Nx W B h v) (hne : B ≠ C) : Nx (W.setCell ⟨C, i, none⟩ x) B h v := Bx.off hc hne
theorem Nx.new (W : World) (h : Hd) (v : Value) : Nx (W.alloc (.cells #[.int .i64 h.kind, .bool h.b, .bool h.neg, .string h.dig, .int .i64 h.exp, .int .u64 (h.u : Int), .int .i64 h.w, .string h.s, v] 28)) W.heap.size h v := heap_alloc_new W _
/-- A node stored. -/
abbrev setN (W : World) (B : Nat) (h : Hd) (v : Value) : World :=
  ((((((((W.setCell ⟨B, 0, none⟩ (.int .i64 h.kind)).setCell ⟨B, 1, none⟩ (.bool h.b)).setCell ⟨B, 2, none⟩ (.bool h.neg)).setCell ⟨B, 3, none⟩ (.string h.dig)).setCell ⟨B, 4, none⟩ (.int .i64 h.exp)).setCell ⟨B, 5, none⟩ (.int .u64 (h.u : Int))).setCell ⟨B, 6, none⟩ (.int .i64 h.w)).setCell ⟨B, 7, none⟩ (.string h.s)).setCell ⟨B, 8, none⟩ v
theorem Bx.set9 {W : World} {B : Nat} {T : TypeId} {a0 a1 a2 a3 a4 a5 a6 a7 a8 : Value} (h0 : Bx W B #[a0, a1, a2, a3, a4, a5, a6, a7, a8] T) (b0 b1 b2 b3 b4 b5 b6 b7 b8 : Value) : Bx (((((((((W.setCell ⟨B, 0, none⟩ b0).setCell ⟨B, 1, none⟩ b1).setCell ⟨B, 2, none⟩ b2).setCell ⟨B, 3, none⟩ b3).setCell ⟨B, 4, none⟩ b4).setCell ⟨B, 5, none⟩ b5).setCell ⟨B, 6, none⟩ b6).setCell ⟨B, 7, none⟩ b7).setCell ⟨B, 8, none⟩ b8) B #[b0, b1, b2, b3, b4, b5, b6, b7, b8] T := by
  have h1 : Bx (W.setCell ⟨B, 0, none⟩ b0) B #[b0, a1, a2, a3, a4, a5, a6, a7, a8] T := heap_setCell_same W B 0 _ _ b0 h0
  have h2 : Bx ((W.setCell ⟨B, 0, none⟩ b0).setCell ⟨B, 1, none⟩ b1) B #[b0, b1, a2, a3, a4, a5, a6, a7, a8] T := heap_setCell_same (W.setCell ⟨B, 0, none⟩ b0) B 1 _ _ b1 h1
  have h3 : Bx (((W.setCell ⟨B, 0, none⟩ b0).setCell ⟨B, 1, none⟩ b1).setCell ⟨B, 2, none⟩ b2) B #[b0, b1, b2, a3, a4, a5, a6, a7, a8] T := heap_setCell_same ((W.setCell ⟨B, 0, none⟩ b0).setCell ⟨B, 1, none⟩ b1) B 2 _ _ b2 h2
  have h4 : Bx ((((W.setCell ⟨B, 0, none⟩ b0).setCell ⟨B, 1, none⟩ b1).setCell ⟨B, 2, none⟩ b2).setCell ⟨B, 3, none⟩ b3) B #[b0, b1, b2, b3, a4, a5, a6, a7, a8] T := heap_setCell_same (((W.setCell ⟨B, 0, none⟩ b0).setCell ⟨B, 1, none⟩ b1).setCell ⟨B, 2, none⟩ b2) B 3 _ _ b3 h3
  have h5 : Bx (((((W.setCell ⟨B, 0, none⟩ b0).setCell ⟨B, 1, none⟩ b1).setCell ⟨B, 2, none⟩ b2).setCell ⟨B, 3, none⟩ b3).setCell ⟨B, 4, none⟩ b4) B #[b0, b1, b2, b3, b4, a5, a6, a7, a8] T := heap_setCell_same ((((W.setCell ⟨B, 0, none⟩ b0).setCell ⟨B, 1, none⟩ b1).setCell ⟨B, 2, none⟩ b2).setCell ⟨B, 3, none⟩ b3) B 4 _ _ b4 h4
  have h6 : Bx ((((((W.setCell ⟨B, 0, none⟩ b0).setCell ⟨B, 1, none⟩ b1).setCell ⟨B, 2, none⟩ b2).setCell ⟨B, 3, none⟩ b3).setCell ⟨B, 4, none⟩ b4).setCell ⟨B, 5, none⟩ b5) B #[b0, b1, b2, b3, b4, b5, a6, a7, a8] T := heap_setCell_same (((((W.setCell ⟨B, 0, none⟩ b0).setCell ⟨B, 1, none⟩ b1).setCell ⟨B, 2, none⟩ b2).setCell ⟨B, 3, none⟩ b3).setCell ⟨B, 4, none⟩ b4) B 5 _ _ b5 h5
  have h7 : Bx (((((((W.setCell ⟨B, 0, none⟩ b0).setCell ⟨B, 1, none⟩ b1).setCell ⟨B, 2, none⟩ b2).setCell ⟨B, 3, none⟩ b3).setCell ⟨B, 4, none⟩ b4).setCell ⟨B, 5, none⟩ b5).setCell ⟨B, 6, none⟩ b6) B #[b0, b1, b2, b3, b4, b5, b6, a7, a8] T := heap_setCell_same ((((((W.setCell ⟨B, 0, none⟩ b0).setCell ⟨B, 1, none⟩ b1).setCell ⟨B, 2, none⟩ b2).setCell ⟨B, 3, none⟩ b3).setCell ⟨B, 4, none⟩ b4).setCell ⟨B, 5, none⟩ b5) B 6 _ _ b6 h6
  have h8 : Bx ((((((((W.setCell ⟨B, 0, none⟩ b0).setCell ⟨B, 1, none⟩ b1).setCell ⟨B, 2, none⟩ b2).setCell ⟨B, 3, none⟩ b3).setCell ⟨B, 4, none⟩ b4).setCell ⟨B, 5, none⟩ b5).setCell ⟨B, 6, none⟩ b6).setCell ⟨B, 7, none⟩ b7) B #[b0, b1, b2, b3, b4, b5, b6, b7, a8] T := heap_setCell_same (((((((W.setCell ⟨B, 0, none⟩ b0).setCell ⟨B, 1, none⟩ b1).setCell ⟨B, 2, none⟩ b2).setCell ⟨B, 3, none⟩ b3).setCell ⟨B, 4, none⟩ b4).setCell ⟨B, 5, none⟩ b5).setCell ⟨B, 6, none⟩ b6) B 7 _ _ b7 h7
  have h9 : Bx (((((((((W.setCell ⟨B, 0, none⟩ b0).setCell ⟨B, 1, none⟩ b1).setCell ⟨B, 2, none⟩ b2).setCell ⟨B, 3, none⟩ b3).setCell ⟨B, 4, none⟩ b4).setCell ⟨B, 5, none⟩ b5).setCell ⟨B, 6, none⟩ b6).setCell ⟨B, 7, none⟩ b7).setCell ⟨B, 8, none⟩ b8) B #[b0, b1, b2, b3, b4, b5, b6, b7, b8] T := heap_setCell_same ((((((((W.setCell ⟨B, 0, none⟩ b0).setCell ⟨B, 1, none⟩ b1).setCell ⟨B, 2, none⟩ b2).setCell ⟨B, 3, none⟩ b3).setCell ⟨B, 4, none⟩ b4).setCell ⟨B, 5, none⟩ b5).setCell ⟨B, 6, none⟩ b6).setCell ⟨B, 7, none⟩ b7) B 8 _ _ b8 h8
  exact h9
theorem Nx.setN {W : World} {B : Nat} {h : Hd} {v : Value} (hx : Nx W B h v) (h' : Hd) (v' : Value) : Nx (setN W B h' v') B h' v' := Bx.set9 hx _ _ _ _ _ _ _ _ _
theorem setN_other {W : World} {B : Nat} {h : Hd} {v : Value} {b : Nat} (hb : b ≠ B) : (setN W B h v).heap[b]? = W.heap[b]? := by
  simp only [setN]
  iterate 9 rw [Below.heap_setCell _ ⟨B, _, none⟩ _ b hb]
theorem size_setN {W : World} {B : Nat} {h : Hd} {v : Value} : (setN W B h v).heap.size = W.heap.size := by
  simp only [setN, World.size_setCell]
theorem below_setN {w W : World} {n0 B : Nat} (hb : Below n0 w W) (hB : n0 ≤ B) (h : Hd) (v : Value) : Below n0 w (setN W B h v) :=
  ((((((((hb.setCell (p := ⟨B, 0, none⟩) hB _).setCell (p := ⟨B, 1, none⟩) hB _).setCell (p := ⟨B, 2, none⟩) hB _).setCell (p := ⟨B, 3, none⟩) hB _).setCell (p := ⟨B, 4, none⟩) hB _).setCell (p := ⟨B, 5, none⟩) hB _).setCell (p := ⟨B, 6, none⟩) hB _).setCell (p := ⟨B, 7, none⟩) hB _).setCell (p := ⟨B, 8, none⟩) hB _
theorem sizeN : (Tryz.prog.info? 28).map (·.size) = some 9 := by kernel_rfl
theorem Bx.new1 (W : World) (o : Obj) (cs : Array Value) (T : TypeId) : Bx ((W.alloc o).alloc (.cells cs T)) (W.heap.size + 1) cs T := by
  have := Bx.new (W.alloc o) cs T
  rwa [World.size_alloc] at this
theorem Bx.new2 (W : World) (o o' : Obj) (cs : Array Value) (T : TypeId) : Bx (((W.alloc o).alloc o').alloc (.cells cs T)) (W.heap.size + 1 + 1) cs T := by
  have := Bx.new1 (W.alloc o) o' cs T
  rwa [World.size_alloc] at this
theorem Bx.new3 (W : World) (o o' o'' : Obj) (cs : Array Value) (T : TypeId) : Bx ((((W.alloc o).alloc o').alloc o'').alloc (.cells cs T)) (W.heap.size + 1 + 1 + 1) cs T := by
  have := Bx.new2 (W.alloc o) o' o'' cs T
  rwa [World.size_alloc] at this
end Go.Proofs.YtppapkpceejnkaaGreatDoor

namespace Go.Proofs.YtppapkpceejnkaaGreatDoor
open Go.RowKit

theorem wrap_1 : wrap64 1 = 1 := by unfold wrap64; decide
theorem wrap_add (a b : Int) : wrap64 (a + wrap64 b) = wrap64 (a + b) := by unfold wrap64; omega
theorem wrap_add' (a b : Int) : wrap64 (wrap64 a + b) = wrap64 (a + b) := by unfold wrap64; omega

set_option maxRecDepth 100000 in
theorem rCount_any (n : Nat) : ∀ (k : Fo) (h : Hd) (v : Value) (w : World), k.cnt < n → Kd An w v k →
    Calls Tryz.prog 29 #[.agg (h.cells v)] w fun o w' => o = .returned (.int .i64 (wrap64 (1 + (k.cnt : Int)))) ∧ Below w.heap.size w w' := by
  induction n with
  | zero => intro k h v w hn; omega
  | succ n ih =>
    intro k h v w hn hk
    obtain ⟨A, c, rfl, hc, hl, hL⟩ := hk.form
    have IH := Lib.hid ih
    have HL := Lib.hid hL
    have HN := Lib.hid hn
    clear ih hL hk hn
    simp only [Hd.cells]
    go_enter Tryz.func29, Tryz.ntmps29
    go_wp2_with fail
    have HB0 := Lib.hid (Nx.new w h (.slice A k.len c))
    go_loopw [3, 4] (fun x i wr => ∃ j : Nat, i = .int .i64 j ∧ j ≤ k.len ∧ x = .int .i64 (wrap64 (1 + (k.cnt : Int) - ((k.drop j).cnt : Int))) ∧ Below w.heap.size w wr ∧ Nx wr w.heap.size h (.slice A k.len c)) (fun _ i _ => k.len - (intOf i).toNat)
    case atStart => exact ⟨0, rfl, Nat.zero_le _, by rw [Fo.drop, show (1 : Int) + (k.cnt : Int) - (k.cnt : Int) = 1 by omega]; rw [wrap_1], below_a (Below.refl _ _) _, HB0.out⟩
    case round =>
      obtain ⟨j, rfl, hj, rfl, hb, hbx⟩ := hrel
      have HB := Lib.hid hb
      have HX := Lib.hid hbx
      have c8 := hbx.c8
      clear hb hbx HB0
      by_cases hgo : j < k.len
      · obtain ⟨B, o, rfl, hB, _, hLi⟩ := HL.out (by omega)
        obtain ⟨h', k', r, hd⟩ := drop_cons hgo
        have hLj := lies_drop j hLi
        rw [hd] at hLj
        obtain ⟨⟨v', hc', hk'⟩, hu', _⟩ := lies_cons.1 hLj
        have HK' := Lib.hid hk'
        have HD := Lib.hid hd
        obtain ⟨d0, d1, d2, d3, d4, d5, d6, d7, d8⟩ := (hc'.below HB.out).nine
        clear hLi hLj hc' hk' hd
        go_wp2_with (go_at_call 29; refine (IH.out k' h' v' _ (by have := drop_cnt j k; rw [HD.out, Fo.cnt] at this; have := HN.out; omega) (HK'.out.below HB.out)).mono ?_; rintro e w1 ⟨rfl, hb1⟩)
        go_roundw
        case rel =>
          refine ⟨j + 1, by go_num, hgo, ?_, below_nx HB.out hb1, HX.out.below hb1⟩
          rw [drop_succ j k HD.out, HD.out, Fo.cnt]
          first | rw [wrap_add, wrap_add'] | rw [wrap_add']
          congr 2
          push_cast
          omega
        case measure => simp [intOf]; omega
      · go_wp2_with fail
        go_ret
        obtain rfl : j = k.len := by omega
        rw [drop_end]
        exact ⟨by simp [Fo.cnt], HB.out⟩
theorem rCount_calls (k : Fo) (h : Hd) (v : Value) (w : World) (hk : Kd An w v k) :
    Calls Tryz.prog 29 #[.agg (h.cells v)] w fun o w' => o = .returned (.int .i64 (wrap64 (1 + (k.cnt : Int)))) ∧ Below w.heap.size w w' := rCount_any (k.cnt + 1) k h v w (by omega) hk
end Go.Proofs.YtppapkpceejnkaaGreatDoor

namespace Go.Proofs.YtppapkpceejnkaaGreatDoor
open Go.RowKit

def cutB (s : ByteArray) (m : Nat) : ByteArray := s.extract 0 (min s.size m)
def cutH (h : Hd) : Hd := { h with dig := cutB h.dig 200, s := cutB h.s 410 }
def cutF : Fo → Nat → Nat → Fo
  | .nil, _, _ => .nil
  | .cons h k r, D, m => if m = 0 then .nil else .cons (cutH h) (if D ≤ 1 then .nil else cutF k (D - 1) 40) (cutF r D (m - 1))
def cutK (D : Nat) (k : Fo) : Fo := if D ≤ 1 then .nil else cutF k (D - 1) 40

/-- The cells of nodes, one behind the other. -/
def Rw (P : Nat → Prop) (W : World) : Fo → List Value → Prop
  | .nil, xs => xs = []
  | .cons h k r, xs => ∃ v ys, xs = (h.cells v).toList ++ ys ∧ Kd P W v k ∧ h.u < 18446744073709551616 ∧ Rw P W r ys
def Fo.app : Fo → Fo → Fo
  | .nil, g => g
  | .cons h k r, g => .cons h k (r.app g)
theorem rw_app {P : Nat → Prop} {W : World} : ∀ {f g : Fo} {xs ys : List Value}, Rw P W f xs → Rw P W g ys → Rw P W (f.app g) (xs ++ ys)
  | .nil, _, _, _, h, h2 => by cases h; exact h2
  | .cons _ _ _, _, _, _, ⟨v, zs, h1, h2, h3, h4⟩, hg => ⟨v, zs ++ _, by rw [h1, List.append_assoc], h2, h3, rw_app h4 hg⟩
theorem Rw.kept {P : Nat → Prop} {W W' : World} (hs : W.heap.size ≤ W'.heap.size) (hb : ∀ b, P b → b < W.heap.size → W'.heap[b]? = W.heap[b]?) : ∀ {f : Fo} {xs : List Value}, Rw P W f xs → Rw P W' f xs
  | .nil, _, h => h
  | .cons _ _ _, _, ⟨v, zs, h1, h2, h3, h4⟩ => ⟨v, zs, h1, h2.kept hs hb, h3, Rw.kept hs hb h4⟩
theorem Rw.mono {P Q : Nat → Prop} {W : World} (hP : ∀ b, P b → b < W.heap.size → Q b) : ∀ {f : Fo} {xs : List Value}, Rw P W f xs → Rw Q W f xs
  | .nil, _, h => h
  | .cons _ _ _, _, ⟨v, zs, h1, h2, h3, h4⟩ => ⟨v, zs, h1, h2.mono hP, h3, Rw.mono hP h4⟩
theorem Rw.length {P : Nat → Prop} {W : World} : ∀ {f : Fo} {xs : List Value}, Rw P W f xs → xs.length = f.len * 9
  | .nil, _, h => by cases h; rfl
  | .cons _ _ _, _, ⟨v, zs, h1, _, _, h4⟩ => by rw [h1, List.length_append, Rw.length h4, Fo.len]; simp [Hd.cells]; omega
theorem lies_of_row {P : Nat → Prop} {W : World} {g : Nat} {cur : Array Value} {e : TypeId} {fz : Nat × Nat} (hg : W.heap[g]? = some (.cells cur e fz)) :
    ∀ {f : Fo} {o : Nat} {xs : List Value}, Rw P W f xs → (∀ i v, xs[i]? = some v → cur[o + i]? = some v) → Lies P W f g o
  | .nil, _, _, _, _ => trivial
  | .cons _ _ _, o, _, ⟨v, ys, h1, h2, h3, h4⟩, hx => by
    subst h1
    refine lies_cons.2 ⟨⟨v, ?_, h2⟩, h3, lies_of_row hg h4 ?_⟩
    · intro i u hi
      have hl : i < 9 := by
        rcases Nat.lt_or_ge i 9 with h | h
        · exact h
        · rw [Array.getElem?_eq_none (by simpa [Hd.cells] using h)] at hi; cases hi
      have := hx i u (by rw [List.getElem?_append_left (by simpa [Hd.cells] using hl), Array.getElem?_toList]; exact hi)
      simp [World.cell?, hg, this]
    · intro i u hi
      have := hx (9 + i) u (by rw [List.getElem?_append_right (by simp [Hd.cells])]; simpa [Hd.cells] using hi)
      rw [Nat.add_assoc]; exact this
theorem kd_of_owns {P : Nat → Prop} {W : World} {base : Nat} {v : Value} {f : Fo} {xs : List Value} (ho : W.ownsRow base 28 9 v f.len xs) (hr : Rw P W f xs) (hP : ∀ b, v.ownBlock = some b → b < W.heap.size → P b) (hl : f.len < 9223372036854775808) : Kd P W v f := by
  obtain ⟨h1, ⟨rfl, h2⟩ | ⟨g, cap, cur, rfl, h3, h4, h5, h6, h7, h8⟩⟩ := ho
  · refine .inl ⟨_, _, rfl, ?_⟩
    cases f with
    | nil => rfl
    | cons => simp [Fo.len] at h2
  · have hgl := (Array.getElem?_eq_some_iff.1 h4).1
    refine .inr ⟨g, 0, cap, rfl, h5, hl, hgl, hP g rfl hgl, lies_of_row h4 hr ?_⟩
    intro i u hi
    rw [← h8] at hi
    rw [Nat.zero_add, ← Array.getElem?_toList]
    rcases Nat.lt_or_ge i (f.len * 9) with hlt | hge
    · rwa [List.getElem?_take_of_lt hlt] at hi
    · rw [List.getElem?_take_eq_none hge] at hi; cases hi

theorem cutF_nil (D m : Nat) : cutF .nil D m = .nil := rfl
/-- The first ones. -/
def Fo.take : Nat → Fo → Fo
  | 0, _ => .nil
  | _ + 1, .nil => .nil
  | n + 1, .cons h k r => .cons h k (r.take n)
theorem take_len : ∀ (n : Nat) (f : Fo), n ≤ f.len → (f.take n).len = n
  | 0, _, _ => rfl
  | _ + 1, .nil, h => by simp [Fo.len] at h
  | n + 1, .cons _ _ r, h => by simp only [Fo.take, Fo.len] at *; rw [take_len n r (by omega)]
theorem take_app : ∀ (n : Nat) (f : Fo) {h : Hd} {k r : Fo}, f.drop n = .cons h k r → f.take (n + 1) = (f.take n).app (.cons h k .nil)
  | 0, .cons _ _ _, _, _, _, e => by cases e; rfl
  | 0, .nil, _, _, _, e => by cases e
  | _ + 1, .nil, _, _, _, e => by cases e
  | n + 1, .cons _ _ r, _, _, _, e => by
    have := take_app n r e
    simp only [Fo.take, Fo.app] at *
    rw [← this]
theorem take_all : ∀ (f : Fo), f.take f.len = f
  | .nil => rfl
  | .cons _ _ r => by simp only [Fo.len, Fo.take]; rw [take_all r]
theorem cut_len : ∀ (k : Fo) (D m : Nat), (cutF k D m).len = min k.len m
  | .nil, _, _ => by simp [cutF, Fo.len]
  | .cons _ _ r, D, m => by
    unfold cutF
    by_cases hm : m = 0
    · rw [if_pos hm, hm]; simp [Fo.len]
    · rw [if_neg hm]; simp only [Fo.len]; rw [cut_len r D (m - 1)]; omega
theorem cut_drop : ∀ (j : Nat) (k : Fo) (D m : Nat) {h : Hd} {k' r : Fo}, k.drop j = .cons h k' r → j < m → ∃ r', (cutF k D m).drop j = .cons (cutH h) (cutK D k') r'
  | 0, .cons _ _ _, D, m, _, _, _, e, hm => by
    cases e
    unfold cutF
    rw [if_neg (by omega)]
    exact ⟨_, rfl⟩
  | 0, .nil, _, _, _, _, _, e, _ => by cases e
  | _ + 1, .nil, _, _, _, _, _, e, _ => by cases e
  | j + 1, .cons _ _ r, D, m, _, _, _, e, hm => by
    unfold cutF
    rw [if_neg (by omega)]
    exact cut_drop j r D (m - 1) e (by omega)
end Go.Proofs.YtppapkpceejnkaaGreatDoor

namespace Go.Proofs.YtppapkpceejnkaaGreatDoor
open Go.RowKit

attribute [local go_sem] Oper.semAt_some

/-- All blocks of cells stand, but for some. -/
def Kx (X : Nat → Prop) (W W' : World) : Prop := W.heap.size ≤ W'.heap.size ∧ ∀ k cs T fr, W.heap[k]? = some (.cells cs T fr) → ¬ X k → W'.heap[k]? = some (.cells cs T fr)
theorem Kx.refl (X : Nat → Prop) (W : World) : Kx X W W := ⟨Nat.le_refl _, fun _ _ _ _ h _ => h⟩
theorem Kx.trans {X : Nat → Prop} {A B C : World} (h : Kx X A B) (k : Kx X B C) : Kx X A C := ⟨Nat.le_trans h.1 k.1, fun i cs T fr hi hx => k.2 i cs T fr (h.2 i cs T fr hi hx) hx⟩
theorem Kx.below {X : Nat → Prop} {A B : World} (h : Below A.heap.size A B) : Kx X A B := ⟨h.size, fun i _ _ _ hi _ => (h.block i (Array.getElem?_eq_some_iff.1 hi).1).trans hi⟩
theorem Kx.alloc {X : Nat → Prop} {A B : World} (h : Kx X A B) (o : Obj) : Kx X A (B.alloc o) := h.trans (Kx.below ((Below.refl _ B).alloc (Nat.le_refl _) o))
theorem Kx.putObj {X : Nat → Prop} (W : World) (l : Nat) (o o' : Obj) (h : W.heap[l]? = some o) (hc : o.isCells = false) : Kx X W (W.putObj l o') :=
  ⟨by simp, fun k cs T fr hk _ => (World.putObj_heap_other (fun e => by subst e; rw [h] at hk; cases hk; cases hc)).trans hk⟩
theorem Kx.set {X : Nat → Prop} {A B : World} (h : Kx X A B) {b i : Nat} {v : Value} (hb : X b) : Kx X A (B.setCell ⟨b, i, none⟩ v) :=
  ⟨by rw [World.size_setCell]; exact h.1, fun k cs T fr hk hx => (Below.heap_setCell B ⟨b, i, none⟩ v k (fun e => hx (by rw [show k = b from e]; exact hb))).trans (h.2 k cs T fr hk hx)⟩
theorem cells_of_cell {w : World} {b o : Nat} {v : Value} (h : w.cell? ⟨b, o, none⟩ = some v) : ∃ cs T fr, w.heap[b]? = some (.cells cs T fr) := by
  unfold World.cell? at h
  cases hb : w.heap[b]? with
  | none => simp [hb] at h
  | some x =>
    cases x with
    | cells cs T fr => exact ⟨cs, T, fr, rfl⟩
    | _ => simp [hb] at h
theorem Cells.kx {X : Nat → Prop} {W W' : World} {B o : Nat} {cs : Array Value} (h : Cells W B o cs) (hk : Kx X W W') (hB : ¬ X B) : Cells W' B o cs := fun i v hi => by
  have h1 := h i v hi
  obtain ⟨c, T, fr, hb⟩ := cells_of_cell h1
  exact (cell_of_block ((hk.2 B c T fr hb hB).trans hb.symm)).trans h1
theorem Lies.kx {X : Nat → Prop} {W W' : World} (hk : Kx X W W') : ∀ {f : Fo} {B o : Nat}, ¬ X B → Lies (fun b => ¬ X b) W f B o → Lies (fun b => ¬ X b) W' f B o
  | .nil, _, _, _, _ => trivial
  | .cons _ _ _, _, _, e, ⟨⟨v, hc, hq⟩, hu, hr⟩ => ⟨⟨v, hc.kx hk e, hq.imp id fun ⟨b, o', c, h1, h2, h5, h3, h6, h4⟩ => ⟨b, o', c, h1, h2, h5, Nat.lt_of_lt_of_le h3 hk.1, h6, Lies.kx hk h6 h4⟩⟩, hu, Lies.kx hk e hr⟩
theorem Kd.kx {X : Nat → Prop} {W W' : World} {v : Value} {k : Fo} (h : Kd (fun b => ¬ X b) W v k) (hk : Kx X W W') : Kd (fun b => ¬ X b) W' v k :=
  h.imp id fun ⟨b, o', c, h1, h2, h5, h3, h6, h4⟩ => ⟨b, o', c, h1, h2, h5, Nat.lt_of_lt_of_le h3 hk.1, h6, Lies.kx hk h6 h4⟩

/-- What is handed on: a depth, a node. -/
structure It where
  d : Nat
  h : Hd
  v : Value
  k : Fo
/-- .. whose list lies where it lay. -/
abbrev Ix (X : Nat → Prop) (G : Hd → Fo → Prop) (w0 : World) := { x : It // Kd (fun b => ¬ X b) w0 x.v x.k ∧ x.h.u < 18446744073709551616 ∧ x.d < 4611686018427387904 ∧ G x.h x.k }
/-- All nodes are such. -/
def AllG (G : Hd → Fo → Prop) : Fo → Prop
  | .nil => True
  | .cons h k r => G h k ∧ AllG G k ∧ AllG G r
/-- A list of which memory can hold the nodes. -/
def Gl : Hd → Fo → Prop := fun _ k => k.len < 1353245080301
abbrev Gt : Hd → Fo → Prop := fun _ _ => True
theorem allGt : ∀ (f : Fo), AllG Gt f
  | .nil => trivial
  | .cons _ k r => ⟨trivial, allGt k, allGt r⟩
theorem allG_drop {G : Hd → Fo → Prop} : ∀ (i : Nat) {f : Fo}, AllG G f → AllG G (f.drop i)
  | 0, _, h => h
  | _ + 1, .nil, _ => trivial
  | i + 1, .cons _ _ _, h => allG_drop i h.2.2
def encI {X : Nat → Prop} {G : Hd → Fo → Prop} {w0 : World} (x : Ix X G w0) : Array Value := #[.int .i64 (x.1.d : Int), .agg (x.1.h.cells x.1.v)]
/-- The nodes, each behind the one whose list it is in. -/
def Fl {X : Nat → Prop} {G : Hd → Fo → Prop} {w0 : World} : Fo → Nat → List (Ix X G w0) → Prop
  | .nil, _, xs => xs = []
  | .cons h k r, d, xs => ∃ (x : Ix X G w0) (ys zs : List (Ix X G w0)), x.1.d = d ∧ x.1.h = h ∧ x.1.k = k ∧ xs = x :: (ys ++ zs) ∧ Fl k (d + 1) ys ∧ Fl r d zs
section
variable {X : Nat → Prop} {G : Hd → Fo → Prop} {w0 : World}
theorem fl_app : ∀ {f g : Fo} {d : Nat} {xs ys : List (Ix X G w0)}, Fl f d xs → Fl g d ys → Fl (f.app g) d (xs ++ ys)
  | .nil, _, _, _, _, h, h2 => by cases h; exact h2
  | .cons _ _ _, _, _, _, ys, ⟨x, ps, bs, h1, h2, h3, h4, h5, h6⟩, hg => ⟨x, ps, bs ++ ys, h1, h2, h3, by rw [h4]; simp, h5, fl_app h6 hg⟩
theorem fl_len : ∀ {f : Fo} {d : Nat} {xs : List (Ix X G w0)}, Fl f d xs → xs.length = f.cnt
  | .nil, _, _, h => by cases h; rfl
  | .cons _ _ _, _, _, ⟨x, ps, bs, _, _, _, h4, h5, h6⟩ => by rw [h4, Fo.cnt]; simp only [List.length_cons, List.length_append]; rw [fl_len h5, fl_len h6]; omega
theorem deep_cnt : ∀ (f : Fo), f.deep ≤ f.cnt
  | .nil => Nat.le_refl _
  | .cons _ k r => by simp only [Fo.deep, Fo.cnt]; have := deep_cnt k; have := deep_cnt r; omega
theorem fl_lies : ∀ {f : Fo} {B o d : Nat}, Lies (fun b => ¬ X b) w0 f B o → AllG G f → d + f.deep < 4611686018427387904 → ∃ xs : List (Ix X G w0), Fl f d xs
  | .nil, _, _, _, _, _, _ => ⟨[], rfl⟩
  | .cons h k r, B, o, d, ⟨⟨v, hc, hk⟩, hu, hr⟩, ⟨g1, g2, g3⟩, hd => by
    simp only [Fo.deep] at hd
    obtain ⟨zs, hz⟩ := fl_lies (f := r) (d := d) hr g3 (by omega)
    have hy : ∃ ys : List (Ix X G w0), Fl k (d + 1) ys := by
      rcases hk with ⟨_, _, _, rfl⟩ | ⟨b, o', c, _, _, _, _, _, h4⟩
      · exact ⟨[], rfl⟩
      · exact fl_lies (f := k) (d := d + 1) h4 g2 (by omega)
    obtain ⟨ys, hy⟩ := hy
    exact ⟨_, ⟨⟨d, h, v, k⟩, hk, hu, by show d < _; omega, g1⟩, ys, zs, rfl, rfl, rfl, rfl, hy, hz⟩
theorem fl_kd {f : Fo} {v : Value} {d : Nat} (h : Kd (fun b => ¬ X b) w0 v f) (hG : AllG G f) (hd : d + f.deep < 4611686018427387904) : ∃ xs : List (Ix X G w0), Fl f d xs := by
  rcases h with ⟨_, _, _, rfl⟩ | ⟨b, o', c, _, _, _, _, _, h4⟩
  · exact ⟨[], rfl⟩
  · exact fl_lies h4 hG hd
end
end Go.Proofs.YtppapkpceejnkaaGreatDoor

namespace Go.Proofs.YtppapkpceejnkaaGreatDoor
open Go.ChangeShapes Go.WideShapes Go.RowKit

section
variable {H : Type} {enc : TypeId × Value → H} {w : World} {base : Nat} {spare : Nat → Bool} {held : Bool}
theorem cellsN : Tryz.prog.cellsOf 28 = 9 := by kernel_rfl
theorem cellsD : Tryz.prog.cellsOf 24 = 3 := by kernel_rfl
theorem cellsIn : Tryz.prog.cellsOf 3 = 1 := by kernel_rfl
theorem cellsBo : Tryz.prog.cellsOf 4 = 1 := by kernel_rfl
theorem cellsSt : Tryz.prog.cellsOf 9 = 1 := by kernel_rfl
theorem cellsU6 : Tryz.prog.cellsOf 25 = 1 := by kernel_rfl
theorem cellsLs : Tryz.prog.cellsOf 26 = 1 := by kernel_rfl
theorem at_of {α : Type} {xs : List α} {n i : Nat} (hl : xs.length = n) (hi : i < n) : ∃ y, xs[i]? = some y := ⟨_, List.getElem?_eq_getElem (by omega)⟩
theorem cells_addr {b : Nat} {a : Addr} {n : Nat} {cs : List Value} (h : w.cells? b a n = some cs) (hn : 0 < n) : a.spot = none ∧ cs.length = n ∧ ∀ (i : Nat) v, cs[i]? = some v → w.cell? ⟨a.block, a.off + i, none⟩ = some v := by
  unfold World.cells? at h
  split at h
  · have hat := Lib.mapM_at h
    have h0 : ∃ v, w.cell? a = some v := by
      obtain ⟨v, _, h2⟩ := hat 0 0 (by simp [hn])
      exact ⟨v, by simpa [Addr.add] using h2⟩
    have hsp : a.spot = none := by
      obtain ⟨v, hv⟩ := h0
      unfold World.cell? at hv
      split at hv
      · split at hv
        · cases hv
        · rename_i hns
          cases hs : a.spot with
          | none => rfl
          | some x => rw [hs] at hns; exact absurd rfl hns
      · cases hv
    have hlen : cs.length = n := by
      have hl := Lib.mapM_length h
      simpa using hl
    refine ⟨hsp, hlen, fun i v hv => ?_⟩
    have hi : i < n := by
      rcases Nat.lt_or_ge i cs.length with h | h
      · omega
      · rw [List.getElem?_eq_none h] at hv; cases hv
    obtain ⟨u, h1, h2⟩ := hat i i (by simp [hi])
    rw [hv] at h1
    cases h1
    have ha : a.add i = ⟨a.block, a.off + i, none⟩ := by
      unfold Addr.add
      split
      · rename_i e; subst e; cases a; simp_all
      · rfl
    rwa [ha] at h2
  · cases h
set_option maxRecDepth 100000 in
theorem open_fields {n : Nat} {cs : List Value} {x : DataW H × List MemPlace} (h : DataW.trod enc Tryz.prog w base spare held (n + 1) 28 cs = some x) :
    ∃ (hd : Hd) (v : Value) (y : DataW H × List MemPlace), cs = (hd.cells v).toList ∧ hd.u < 18446744073709551616 ∧ DataW.trod enc Tryz.prog w base spare held n 26 [v] = some y := by
  obtain ⟨xs, m, hm, _, hl, hlen, hf⟩ := DataW.trod_struct Tryz.underlying28 h
  obtain rfl : m = n := by omega
  rw [cellsN] at hl
  match cs, hl with
  | [c0, c1, c2, c3, c4, c5, c6, c7, c8], _ =>
    have hx : ∀ i, i < 7 → ∃ y, xs[i]? = some y := fun i hi => at_of (hlen.trans (by rfl)) hi
    obtain ⟨y0, e0⟩ := hx 0 (by decide)
    obtain ⟨y1, e1⟩ := hx 1 (by decide)
    obtain ⟨y2, e2⟩ := hx 2 (by decide)
    obtain ⟨y3, e3⟩ := hx 3 (by decide)
    obtain ⟨y4, e4⟩ := hx 4 (by decide)
    obtain ⟨y5, e5⟩ := hx 5 (by decide)
    obtain ⟨y6, e6⟩ := hx 6 (by decide)
    have f0 : DataW.trod enc Tryz.prog w base spare held m 3 [c0] = some y0 := by
      have h1 : DataW.trod enc Tryz.prog w base spare held m 3 (([c0, c1, c2, c3, c4, c5, c6, c7, c8].drop 0).take (Tryz.prog.cellsOf 3)) = some y0 := (hf 0 _ rfl).trans e0
      rw [cellsIn] at h1
      exact h1
    have f1 : DataW.trod enc Tryz.prog w base spare held m 4 [c1] = some y1 := by
      have h1 : DataW.trod enc Tryz.prog w base spare held m 4 (([c0, c1, c2, c3, c4, c5, c6, c7, c8].drop 1).take (Tryz.prog.cellsOf 4)) = some y1 := (hf 1 _ rfl).trans e1
      rw [cellsBo] at h1
      exact h1
    have f2 : DataW.trod enc Tryz.prog w base spare held m 24 [c2, c3, c4] = some y2 := by
      have h1 : DataW.trod enc Tryz.prog w base spare held m 24 (([c0, c1, c2, c3, c4, c5, c6, c7, c8].drop 2).take (Tryz.prog.cellsOf 24)) = some y2 := (hf 2 _ rfl).trans e2
      rw [cellsD] at h1
      exact h1
    have f3 : DataW.trod enc Tryz.prog w base spare held m 25 [c5] = some y3 := by
      have h1 : DataW.trod enc Tryz.prog w base spare held m 25 (([c0, c1, c2, c3, c4, c5, c6, c7, c8].drop 5).take (Tryz.prog.cellsOf 25)) = some y3 := (hf 3 _ rfl).trans e3
      rw [cellsU6] at h1
      exact h1
    have f4 : DataW.trod enc Tryz.prog w base spare held m 3 [c6] = some y4 := by
      have h1 : DataW.trod enc Tryz.prog w base spare held m 3 (([c0, c1, c2, c3, c4, c5, c6, c7, c8].drop 6).take (Tryz.prog.cellsOf 3)) = some y4 := (hf 4 _ rfl).trans e4
      rw [cellsIn] at h1
      exact h1
    have f5 : DataW.trod enc Tryz.prog w base spare held m 9 [c7] = some y5 := by
      have h1 : DataW.trod enc Tryz.prog w base spare held m 9 (([c0, c1, c2, c3, c4, c5, c6, c7, c8].drop 7).take (Tryz.prog.cellsOf 9)) = some y5 := (hf 5 _ rfl).trans e5
      rw [cellsSt] at h1
      exact h1
    have f6 : DataW.trod enc Tryz.prog w base spare held m 26 [c8] = some y6 := by
      have h1 : DataW.trod enc Tryz.prog w base spare held m 26 (([c0, c1, c2, c3, c4, c5, c6, c7, c8].drop 8).take (Tryz.prog.cellsOf 26)) = some y6 := (hf 6 _ rfl).trans e6
      rw [cellsLs] at h1
      exact h1
    obtain ⟨z0, q0, _, _⟩ := DataW.trod_int Tryz.underlying3 f0
    obtain ⟨z1, q1, _⟩ := DataW.trod_bool Tryz.underlying4 f1
    obtain ⟨z3, q3, _, w3⟩ := DataW.trod_int Tryz.underlying25 f3
    obtain ⟨z4, q4, _, _⟩ := DataW.trod_int Tryz.underlying3 f4
    obtain ⟨z5, q5, _, _⟩ := DataW.trod_string Tryz.underlying9 f5
    obtain ⟨ys, m2, hm2, _, hl2, hlen2, hf2⟩ := DataW.trod_struct Tryz.underlying24 f2
    obtain ⟨d0, g0⟩ := at_of (i := 0) (hlen2.trans (by rfl : _ = 3)) (by decide)
    obtain ⟨d1, g1⟩ := at_of (i := 1) (hlen2.trans (by rfl : _ = 3)) (by decide)
    obtain ⟨d2, g2⟩ := at_of (i := 2) (hlen2.trans (by rfl : _ = 3)) (by decide)
    have k0 : DataW.trod enc Tryz.prog w base spare held m2 4 [c2] = some d0 := by
      have h1 : DataW.trod enc Tryz.prog w base spare held m2 4 (([c2, c3, c4].drop 0).take (Tryz.prog.cellsOf 4)) = some d0 := (hf2 0 _ rfl).trans g0
      rw [cellsBo] at h1
      exact h1
    have k1 : DataW.trod enc Tryz.prog w base spare held m2 9 [c3] = some d1 := by
      have h1 : DataW.trod enc Tryz.prog w base spare held m2 9 (([c2, c3, c4].drop 1).take (Tryz.prog.cellsOf 9)) = some d1 := (hf2 1 _ rfl).trans g1
      rw [cellsSt] at h1
      exact h1
    have k2 : DataW.trod enc Tryz.prog w base spare held m2 3 [c4] = some d2 := by
      have h1 : DataW.trod enc Tryz.prog w base spare held m2 3 (([c2, c3, c4].drop 2).take (Tryz.prog.cellsOf 3)) = some d2 := (hf2 2 _ rfl).trans g2
      rw [cellsIn] at h1
      exact h1
    obtain ⟨u0, p0, _⟩ := DataW.trod_bool Tryz.underlying4 k0
    obtain ⟨u1, p1, _, _⟩ := DataW.trod_string Tryz.underlying9 k1
    obtain ⟨u2, p2, _, _⟩ := DataW.trod_int Tryz.underlying3 k2
    simp only [List.cons.injEq, and_true] at q0 q1 q3 q4 q5 p0 p1 p2
    have hz : 0 ≤ z3 ∧ z3 < 18446744073709551616 := by
      simp only [Lit.wf, IntKind.min, IntKind.max, IntKind.bits, IntKind.signed] at w3
      simp at w3
      omega
    refine ⟨⟨z0, z1, u0, u1, u2, z3.toNat, z4, z5⟩, c8, y6, ?_, by show z3.toNat < _; omega, f6⟩
    rw [q0, q1, q3, q4, q5, p0, p1, p2]
    simp [Hd.cells]
    omega
set_option maxRecDepth 100000 in
/-- The nodes that a list reads as. -/
theorem open_nodes (n : Nat) : (∀ cs x, DataW.trod enc Tryz.prog w base spare held n 26 cs = some x → ∃ v k, cs = [v] ∧ Kd An w v k) ∧ (∀ cs x, DataW.trod enc Tryz.prog w base spare held n 28 cs = some x → ∃ (h : Hd) (v : Value) (k : Fo), cs = (h.cells v).toList ∧ Kd An w v k ∧ h.u < 18446744073709551616) := by
  induction n with
  | zero => exact ⟨fun cs x h => by simp [DataW.trod] at h, fun cs x h => by simp [DataW.trod] at h⟩
  | succ n ih =>
    refine ⟨fun cs x h => ?_, fun cs x h => ?_⟩
    · rcases DataW.trod_slice Tryz.underlying26 h with ⟨rfl, _⟩ | ⟨a, len, cap, elems, rest, m, hm, rfl, _, hb, hlc, hcm, hel, hat, _, _⟩
      · exact ⟨_, .nil, rfl, .inl ⟨none, 0, rfl, rfl⟩⟩
      · obtain rfl : m = n := by omega
        cases len with
        | zero => exact ⟨_, .nil, rfl, .inl ⟨_, _, rfl, rfl⟩⟩
        | succ len =>
          have hone : ∀ i, i < len + 1 → ∃ cs', w.cells? base (a.add (i * 9)) 9 = some cs' ∧ ∃ y, DataW.trod enc Tryz.prog w base spare held m 28 cs' = some y := fun i hi => by
            have h1 := hat i hi
            rw [cellsN, List.getElem?_eq_getElem (by omega)] at h1
            obtain ⟨cs', h2, h3⟩ := Option.bind_eq_some_iff.1 h1
            exact ⟨cs', h2, _, h3⟩
          have hsp : a.spot = none := by
            obtain ⟨cs', h2, _⟩ := hone 0 (by omega)
            have := (cells_addr h2 (by decide)).1
            simpa [Addr.add] using this
          have hblk : a.block < w.heap.size := by
            obtain ⟨cs', h2, _⟩ := hone 0 (by omega)
            obtain ⟨_, hl, hc⟩ := cells_addr h2 (by decide)
            have := hc 0 _ (List.getElem?_eq_getElem (by omega))
            have h3 := lt_of_cell0 this
            simpa [Addr.add] using h3
          have hall : ∀ (q i : Nat), i + q = len + 1 → ∃ k, k.len = q ∧ Lies An w k a.block (a.off + i * 9) := by
            intro q
            induction q with
            | zero => intro i _; exact ⟨.nil, rfl, trivial⟩
            | succ q ihq =>
              intro i hi
              obtain ⟨r, hr1, hr2⟩ := ihq (i + 1) (by omega)
              obtain ⟨cs', h2, y, h3⟩ := hone i (by omega)
              obtain ⟨hd, v, k, rfl, hk, hu⟩ := ih.2 cs' y h3
              obtain ⟨_, _, hc⟩ := cells_addr h2 (by decide)
              refine ⟨.cons hd k r, by simp [Fo.len, hr1], lies_cons.2 ⟨⟨v, ?_, hk⟩, hu, by rwa [show a.off + i * 9 + 9 = a.off + (i + 1) * 9 by omega]⟩⟩
              intro j u hj
              have h4 := hc j u (by rwa [Array.getElem?_toList])
              have h5 : (a.add (i * 9)).block = a.block ∧ (a.add (i * 9)).off = a.off + i * 9 := by
                unfold Addr.add
                split
                · rename_i e; exact ⟨rfl, by omega⟩
                · exact ⟨rfl, rfl⟩
              rwa [h5.1, h5.2] at h4
          obtain ⟨k, hk1, hk2⟩ := hall (len + 1) 0 (by omega)
          rw [Nat.zero_mul, Nat.add_zero] at hk2
          refine ⟨_, k, rfl, .inr ⟨a.block, a.off, cap, ?_, by omega, by unfold maxLen at hcm; omega, hblk, trivial, hk2⟩⟩
          rw [hk1]
          cases a
          simp_all
    · obtain ⟨hd, v, y, rfl, hu, hy⟩ := open_fields h
      obtain ⟨v', k, e, hk⟩ := ih.1 _ _ hy
      cases e
      exact ⟨hd, v, k, rfl, hk, hu⟩
set_option maxRecDepth 100000 in
theorem open_node {r : Reach} {b0 : Nat} {v : Value} {d : DataW H} {ps : List MemPlace} (hval : Value.okWide Tryz.prog w r b0 28 v) (hd : DataW.Trod enc Tryz.prog w base spare held 28 v d ps) :
    ∃ (h : Hd) (u : Value) (k : Fo), v = .agg (h.cells u) ∧ Kd An w u k ∧ h.u < 18446744073709551616 := by
  obtain ⟨cs, rfl, _⟩ := okWide_struct Tryz.underlying28 hval
  obtain ⟨fuel, hf⟩ := hd
  obtain ⟨h, u, k, hc, hk, hu⟩ := (open_nodes fuel).2 _ _ hf
  refine ⟨h, u, k, ?_, hk, hu⟩
  have : cs = h.cells u := Array.toList_inj.1 hc
  rw [this]
end
end Go.Proofs.YtppapkpceejnkaaGreatDoor

namespace Go.Proofs.YtppapkpceejnkaaGreatDoor
open Go.RowKit

def sameH (h h2 : Hd) : Bool := h.kind == h2.kind && h.b == h2.b && (h.neg == h2.neg && decide (h.dig.toList = h2.dig.toList) && h.exp == h2.exp) && decide ((h.u : Int) = (h2.u : Int)) && h.w == h2.w && decide (h.s.toList = h2.s.toList)
def BolP (b : Bool) (w : World) (o : Ending) (w' : World) : Prop := o = .returned (.bool b) ∧ Below w.heap.size w w'

set_option maxRecDepth 100000 in
theorem isJust_calls (h h2 : Hd) (A A2 : Option Addr) (n n2 c c2 : Nat) (w : World) :
    Calls Tryz.prog 125 #[.agg (h.cells (.slice A n c)), .agg (h2.cells (.slice A2 n2 c2))] w (BolP (sameH h h2 && ((n : Int) == (n2 : Int))) w) := by
  obtain ⟨R, hR⟩ : ∃ R, R = (sameH h h2 && ((n : Int) == (n2 : Int))) := ⟨_, rfl⟩
  rw [← hR]
  have HR := Lib.hid hR
  clear hR
  simp only [Hd.cells]
  go_enter Tryz.func125, Tryz.ntmps125
  go_wp2
  all_goals go_ret
  all_goals refine ⟨?_, below_a (below_a (Below.refl _ _) _) _⟩
  all_goals rw [HR.out]
  all_goals simp_all [sameH]
end Go.Proofs.YtppapkpceejnkaaGreatDoor
