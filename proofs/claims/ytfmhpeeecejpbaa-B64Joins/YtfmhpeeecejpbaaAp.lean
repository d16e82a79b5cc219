/- What a loop body that appends one byte to a boxed row leaves as it was. -/
import Derived.Test.YtfmhpeeecejpbaaRl
import Derived.Test.YtfmhpeeecejpbaaAl2
import Derived.Deep.AppendLies
import Derived.Lib.ConvBytes
namespace Go.Proofs.Ytfmhpeeecejpbaa
open Go.RowKit Go.Shelf

/-- A box at Bo holds a slice that owns the bytes X, in no block of Fx. -/
def OutB (W : World) (Bo m : Nat) (Fx : Nat → Prop) (X : List UInt8) : Prop := ∃ v, Boxed W Bo 35 v ∧ W.ownsRow m 5 1 v X.length (X.map encB) ∧ ∀ k, Fx k → v.ownBlock ≠ some k

theorem outB_own {β : Type} (Bo m : Nat) (Fx : Nat → Prop) (f : β → List UInt8) : Own (fun s W => OutB W Bo m Fx (f s)) :=
  holdsRow_own m Bo 35 5 1 (fun s => (f s).length) (fun s => (f s).map encB) (fun _ v => ∀ k, Fx k → v.ownBlock ≠ some k)

theorem OutB.grown {W W' : World} {Bo m r : Nat} {Fx : Nat → Prop} {X : List UInt8} (h : OutB W Bo m Fx X) (hg : W.grownBy W' (some r)) (hne : Bo ≠ r) (hr : Fx r) : OutB W' Bo m Fx X := by
  obtain ⟨v, h1, h2, h3⟩ := h
  exact ⟨v, h1.kept hg (by intro e; cases e; exact hne rfl), h2.kept hg (.inr (h3 r hr)), h3⟩
theorem OutB.same {W W' : World} {Bo m : Nat} {Fx : Nat → Prop} {X : List UInt8} (h : OutB W Bo m Fx X) (hg : W.grownBy W' none) : OutB W' Bo m Fx X := by
  obtain ⟨v, h1, h2, h3⟩ := h
  exact ⟨v, h1.kept hg (by simp), h2.kept hg (Classical.em _), h3⟩

theorem enc_one (c : UInt8) : [encB c] = [Value.int .u8 (c.toNat : Int)] := rfl
theorem one1 (a : Int) : ∀ u ∈ [Value.int .u8 a], u.oneCell' = true := by intro u hu; simp at hu; subst hu; rfl

/-- One byte more. -/
theorem app_run (W W1 : World) (v : Value) (Bo m : Nat) (Fx : Nat → Prop) (X : List UInt8) (c : UInt8) (x : Int) (hx : x = (c.toNat : Int)) (hX : X.length ≤ 3000) (hm : m ≤ W.heap.size) (hBo : m ≤ Bo) (hF : ∀ k, Fx k → k < W.heap.size ∧ k ≠ Bo)
    (hb : Boxed W Bo 35 v) (hown : W.ownsRow m 5 1 v X.length (X.map encB)) (hv : ∀ k, Fx k → v.ownBlock ≠ some k)
    (hg : (W.alloc (.cells #[.int .u8 x] 5)).grownBy W1 none) (hsz : W1.heap.size = W.heap.size + 1) :
    ∃ g cap w', (Builtin.append_ #[35, 35] 35 #[v, .slice (some ⟨W.heap.size, 0, none⟩) 1 1]).run Try.prog W1 = .ok (.slice (some ⟨g, 0, none⟩) (X.length + 1) cap) w' ∧
      Boxed w' Bo 35 v ∧ OutB (w'.setCell ⟨Bo, 0, none⟩ (.slice (some ⟨g, 0, none⟩) (X.length + 1) cap)) Bo m Fx (X ++ [c]) ∧
      KeepsOthers W (w'.setCell ⟨Bo, 0, none⟩ (.slice (some ⟨g, 0, none⟩) (X.length + 1) cap)) ∧ Kpt Fx W (w'.setCell ⟨Bo, 0, none⟩ (.slice (some ⟨g, 0, none⟩) (X.length + 1) cap)) ∧
      Below m W (w'.setCell ⟨Bo, 0, none⟩ (.slice (some ⟨g, 0, none⟩) (X.length + 1) cap)) := by
  subst hx
  obtain ⟨i0, hi, hz0, hz1, hz2⟩ := info_parts info5
  have hown1 : W1.ownsRow m 5 1 v X.length (X.map encB) := (hown.alloc _).kept hg (Classical.em _)
  have hnew : W1.heap[W.heap.size]? = some (.cells #[.int .u8 (c.toNat : Int)] 5 (0, 0)) := (hg.block _ (by simp) (by simp)).trans (heap_alloc_last W _)
  obtain ⟨g, cap, w', hr, ho, hgr, hat, hlt⟩ := run_append_lies (P := Try.prog) W1 35 35 m 5 i0 (.int .u8 0) 1 1 Try.underlying35 hi hz0 hz1 hz2 rfl (by decide) v X.length (X.map encB) hown1 ⟨W.heap.size, 0, none⟩ 1 1 [.int .u8 (c.toNat : Int)] rfl
    (fun j u hj => by
      rcases j with _ | j
      · simp at hj; subst hj
        have : (⟨W.heap.size, 0, none⟩ : Addr).add 0 = ⟨W.heap.size, 0, none⟩ := rfl
        rw [this, cell_of_row W1 W.heap.size 0 _ _ _ hnew]; rfl
      · simp at hj) (one1 _) (by decide) (by unfold maxLen; omega) (by omega) (by omega) _ rfl
  have hgw : (W.alloc (.cells #[.int .u8 (c.toNat : Int)] 5)).grownBy w' v.ownBlock :=
    ⟨hgr.os.trans hg.os, hgr.tape.trans hg.tape, hgr.output.trans hg.output, Nat.le_trans hg.size hgr.size, fun k hk hne => (hgr.block k (Nat.lt_of_lt_of_le hk hg.size) hne).trans (hg.block k hk (by simp))⟩
  obtain ⟨a1, a2, a3, a4, a5⟩ := hb.appended (by decide) hown hm hBo ho hgw
  refine ⟨g, cap, w', hr, a1, ⟨_, a2, ?_, fun k hk e => ?_⟩, a4, ⟨a4.size, fun k hk => ?_⟩, a5⟩
  · rw [List.length_append, List.map_append]; exact a3
  · have e' : g = k := by simpa [Value.ownBlock] using e
    rcases hat with h | h
    · exact hv k hk (by rw [h, e'])
    · have := (hF k hk).1; omega
  · refine (heap_setCell_other w' ⟨Bo, 0, none⟩ k _ (hF k hk).2).trans ?_
    refine (hgw.block k (by simp; have := (hF k hk).1; omega) (fun e => hv k hk e.symm)).trans ?_
    exact Below.heap_alloc W _ k (by have := (hF k hk).1; omega)
end Go.Proofs.Ytfmhpeeecejpbaa
