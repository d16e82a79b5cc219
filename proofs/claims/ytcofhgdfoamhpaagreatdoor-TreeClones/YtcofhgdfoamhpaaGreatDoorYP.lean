/- The law's own: spoil. -/
import Derived.Test.YtcofhgdfoamhpaaGreatDoorYA
namespace Go.Proofs.YtcofhgdfoamhpaaGreatDoor
open Go.RowKit

def nnH : Hd := ⟨99, false, false, ⟨#[]⟩, 0, 0, 0, ⟨#[]⟩⟩
/-- What spoil keeps: all but blocks of which X is true, and that lists may be spoilt. -/
def SpK (X : Nat → Prop) (base : Nat) (W W' : World) : Prop := Below base W W' ∧ Kx X W W' ∧ ∀ (d : Nat) (v : Value), Sp X W d v → Sp X W' d v
theorem SpK.trans {X : Nat → Prop} {base : Nat} {A B C : World} (h : SpK X base A B) (k : SpK X base B C) : SpK X base A C := ⟨h.1.trans k.1, h.2.1.trans k.2.1, fun d v q => k.2.2 d v (h.2.2 d v q)⟩
theorem SpK.below {X : Nat → Prop} {base : Nat} {A B : World} (hs : base ≤ A.heap.size) (h : Below A.heap.size A B) : SpK X base A B := ⟨h.mono hs, Kx.below h, fun _ _ q => q.kept fun b _ hl => h.block b hl⟩
theorem SpK.set {X : Nat → Prop} {base b j : Nat} {W : World} {cs : Array Value} (hb : W.heap[b]? = some (.cells cs 27 (0, 0))) (hB : base ≤ b) (hX : X b) :
    SpK X base W (setR W b (j * 9) (.int .i64 99) (.bool false) (.bool false) (.string ⟨#[]⟩) (.int .i64 0) (.int .u64 0) (.int .i64 0) (.string ⟨#[]⟩) (.slice none 0 0)) :=
  ⟨below_setR _ _ _ _ _ _ _ _ _ (Below.refl _ _) hB, ⟨by rw [size_setR]; exact Nat.le_refl _, fun k cs T fr hk hx => (setR_other _ _ _ _ _ _ _ _ _ (fun e => hx (by rw [e]; exact hX))).trans hk⟩, fun _ _ q => q.set (h := nnH) hb (setR_same _ _ _ _ _ _ _ _ _ hb) (fun b' hb' => setR_other _ _ _ _ _ _ _ _ _ hb')⟩
theorem Nx.kx {X : Nat → Prop} {W W' : World} {B : Nat} {h : Hd} {v : Value} (hx : Nx W B h v) (hk : Kx X W W') (hB : ¬ X B) : Nx W' B h v := hk.2 B _ _ _ hx hB
theorem at9_cells {W : World} {b o : Nat} {cs : Array Value} {T : TypeId} {h : Hd} {v : Value} (hb : W.heap[b]? = some (.cells cs T (0, 0))) (ha : At9 cs o h v) : Cells W b o (h.cells v) := fun i u hi => by
  simp [World.cell?, hb, ha i u hi]
set_option maxRecDepth 100000 in
set_option maxHeartbeats 2000000 in
theorem spoil_any (X : Nat → Prop) (base : Nat) (hXb : ∀ b, X b → base ≤ b) : ∀ (d : Nat) (h : Hd) (v : Value) (w : World), base ≤ w.heap.size → (∀ b, X b → b < w.heap.size) → Sp X w d v →
    Calls Tryz.prog 24 #[.agg (h.cells v)] w fun o w' => o = .returned (.tuple #[]) ∧ SpK X base w w' := by
  intro d
  induction d with
  | zero =>
    rintro h v w hb hx ⟨A, c, rfl⟩
    have HB := Lib.hid hb
    clear hb hx hXb
    simp only [Hd.cells]
    have HX0 := Lib.hid (Nx.new w h (.slice A 0 c))
    go_enter Tryz.func24, Tryz.ntmps24
    go_wp2_with fail
    go_loopw [2] (fun i wr => i = .int .i64 0 ∧ SpK X base w wr ∧ Nx wr w.heap.size h (.slice A 0 c)) (fun i _ => 0)
    case atStart => exact ⟨rfl, SpK.below HB.out (below_a (Below.refl _ _) _), HX0.out⟩
    case round =>
      obtain ⟨rfl, hk, hx⟩ := hrel
      have HK := Lib.hid hk
      have c8 := hx.c8
      clear hk hx HX0
      go_wp2_with fail
      go_end0
      exact ⟨rfl, HK.out⟩
  | succ d ih =>
    intro h v w hb hx hs
    have IH := Lib.hid ih
    have HB := Lib.hid hb
    have HXl := Lib.hid hx
    have HXb := Lib.hid hXb
    have HXn : Hid (¬ X w.heap.size) := Lib.hid (fun h => Nat.lt_irrefl _ (hx _ h))
    clear ih hb hx hXb
    obtain ⟨A, n, c, rfl, hn, hnn⟩ : ∃ A n c, v = .slice A n c ∧ n < 9223372036854775808 ∧ (n ≠ 0 → ∃ b, A = some ⟨b, 0, none⟩ ∧ c = n) := by
      rcases hs with ⟨A, c, rfl⟩ | ⟨b, n, cs, rfl, hn, _⟩
      · exact ⟨A, 0, c, rfl, by decide, fun h => absurd rfl h⟩
      · exact ⟨_, n, n, rfl, hn, fun _ => ⟨b, rfl, rfl⟩⟩
    have HNN := Lib.hid hnn
    have HS := Lib.hid hs
    clear hs hnn
    simp only [Hd.cells]
    have HX0 := Lib.hid (Nx.new w h (.slice A n c))
    go_enter Tryz.func24, Tryz.ntmps24
    go_wp2_with fail
    go_loopw [2] (fun i wr => ∃ j : Nat, i = .int .i64 j ∧ j ≤ n ∧ SpK X base w wr ∧ Nx wr w.heap.size h (.slice A n c)) (fun i _ => n - (intOf i).toNat)
    case atStart => exact ⟨0, rfl, Nat.zero_le _, SpK.below HB.out (below_a (Below.refl _ _) _), HX0.out⟩
    case round =>
      obtain ⟨j, rfl, hj, hk, hx⟩ := hrel
      have HK := Lib.hid hk
      have HX := Lib.hid hx
      have c8 := hx.c8
      clear hk hx HX0
      by_cases hgo : j < n
      · obtain ⟨b, rfl, rfl⟩ := HNN.out (by omega)
        have hsp := HK.out.2.2 _ _ HS.out
        obtain ⟨b', n', cs, e1, _, e3, e4, e5⟩ : ∃ b' n' cs, Value.slice (some ⟨b, 0, none⟩) c c = .slice (some ⟨b', 0, none⟩) n' n' ∧ n' < 9223372036854775808 ∧ X b' ∧ wr.heap[b']? = some (.cells cs 27 (0, 0)) ∧ ∀ i, i < n' → ∃ h v', At9 cs (i * 9) h v' ∧ Sp X wr d v' := by
          rcases hsp with ⟨A', c', e⟩ | q
          · exfalso
            injection e with _ e2 _
            omega
          · exact q
        cases e1
        obtain ⟨h', v', q1, q2⟩ := e5 j hgo
        have hc' := at9_cells e4 q1
        have HC' := Lib.hid hc'
        obtain ⟨d0, d1, d2, d3, d4, d5, d6, d7, d8⟩ := hc'.nine
        have HQ := Lib.hid q2
        have HE3 := Lib.hid e3
        have HE4 := Lib.hid e4
        have hbs : base ≤ wr.heap.size := Nat.le_trans HB.out HK.out.2.1.1
        have hbl : ∀ b, X b → b < wr.heap.size := fun b hb => Nat.lt_of_lt_of_le (HXl.out b hb) HK.out.2.1.1
        have HBs := Lib.hid hbs
        have HBl := Lib.hid hbl
        clear e5 q1 q2 hsp hc' e4 e3 hbs hbl
        go_wp2_with fail
        refine (IH.out h' v' _ HBs.out HBl.out HQ.out).mono ?_
        rintro e w1 ⟨rfl, hk1⟩
        have HK1 := Lib.hid (HK.out.trans hk1)
        have HX1 := Lib.hid (HX.out.kx hk1.2.1 HXn.out)
        have hsp := HK1.out.2.2 _ _ HS.out
        obtain ⟨b', n', cs, e1, _, e3, e4, e5⟩ : ∃ b' n' cs, Value.slice (some ⟨b, 0, none⟩) c c = .slice (some ⟨b', 0, none⟩) n' n' ∧ n' < 9223372036854775808 ∧ X b' ∧ w1.heap[b']? = some (.cells cs 27 (0, 0)) ∧ ∀ i, i < n' → ∃ h v', At9 cs (i * 9) h v' ∧ Sp X w1 d v' := by
          rcases hsp with ⟨A', c', e⟩ | q
          · exfalso
            injection e with _ e2 _
            omega
          · exact q
        cases e1
        obtain ⟨h'', v'', q1, q2⟩ := e5 j hgo
        have HE := Lib.hid e4
        obtain ⟨g0, g1, g2, g3, g4, g5, g6, g7, g8⟩ := (at9_cells e4 q1).nine
        have z := fun i => Bx.f (show Bx w1 b cs 27 from e4) i
        have z0 := z (j * 9)
        have z1 := z (j * 9 + 1)
        have z2 := z (j * 9 + 2)
        have z3 := z (j * 9 + 3)
        have z4 := z (j * 9 + 4)
        have z5 := z (j * 9 + 5)
        have z6 := z (j * 9 + 6)
        have z7 := z (j * 9 + 7)
        have z8 := z (j * 9 + 8)
        have c8 := HX1.out.c8
        clear z d0 d1 d2 d3 d4 d5 d6 d7 d8 hk1 hsp e5 q1 q2 e4 e3
        go_wp2_with fail
        go_roundw
        case rel => exact ⟨j + 1, by go_num, hgo, HK1.out.trans (SpK.set HE.out (HXb.out _ HE3.out) HE3.out), HX1.out.kx (SpK.set (base := base) HE.out (HXb.out _ HE3.out) HE3.out).2.1 HXn.out⟩
        case measure => simp [intOf]; omega
      · go_wp2_with fail
        go_end0
        exact ⟨rfl, HK.out⟩
end Go.Proofs.YtcofhgdfoamhpaaGreatDoor
