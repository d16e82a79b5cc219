/- slices.AppendSeq, slices.Collect over keys. -/
import Derived.Test.YtppapkpceejnkaaGreatDoorMj
import Derived.Test.YtppapkpceejnkaaGreatDoorT3
import Derived.Test.YtppapkpceejnkaaGreatDoorMi
namespace Go.Proofs.YtppapkpceejnkaaGreatDoor
open Go.RowKit Go.Shelf

attribute [local go_sem] Oper.semAt_some

def foOf {X : Nat → Prop} {G : Hd → Fo → Prop} {w0 : World} : List (Ix X G w0) → Fo
  | [] => .nil
  | x :: xs => .cons x.1.h x.1.k (foOf xs)
section
variable {X : Nat → Prop} {G : Hd → Fo → Prop} {w0 : World}
theorem foOf_app : ∀ (xs : List (Ix X G w0)) (x : Ix X G w0), foOf (xs ++ [x]) = (foOf xs).app (.cons x.1.h x.1.k .nil)
  | [], _ => rfl
  | y :: xs, x => by simp only [List.cons_append, foOf, Fo.app]; rw [foOf_app xs x]
theorem foOf_len : ∀ (xs : List (Ix X G w0)), (foOf xs).len = xs.length
  | [] => rfl
  | _ :: xs => by simp only [foOf, Fo.len, List.length_cons]; rw [foOf_len xs]
theorem ky_fo : ∀ {f : Fo} {xs : List (Ix X G w0)}, Ky f xs → foOf xs = f
  | .nil, _, h => by cases h; rfl
  | .cons _ _ _, _, ⟨x, ys, h1, h2, h3, h4⟩ => by rw [h3, foOf, h1, h2, ky_fo h4]
theorem Rw.kx {W W' : World} (hk : Kx X W W') : ∀ {f : Fo} {xs : List Value}, Rw (fun b => ¬ X b) W f xs → Rw (fun b => ¬ X b) W' f xs
  | .nil, _, h => h
  | .cons _ _ _, _, ⟨v, zs, h1, h2, h3, h4⟩ => ⟨v, zs, h1, h2.kx hk, h3, Rw.kx hk h4⟩
end
theorem keysF_len : ∀ (f : Fo), (keysF f).len ≤ f.len
  | .nil => Nat.le_refl _
  | .cons _ _ .nil => Nat.le_refl _
  | .cons _ _ (.cons _ _ r) => by simp only [keysF, Fo.len]; have := keysF_len r; omega
/-- What has been collected. -/
def Col {X : Nat → Prop} {G : Hd → Fo → Prop} {w0 : World} (base B0 : Nat) (pre : List (Ix X G w0)) (W : World) : Prop := ∃ v xs, Bx W B0 #[v] 26 ∧ W.ownsRow base 28 9 v pre.length xs ∧ Rw (fun b => ¬ X b) W (foOf pre) xs
theorem owns_kept {A B : World} {row : Option Nat} {base size n : Nat} {e : TypeId} {v : Value} {xs : List Value} (h : A.ownsRow base e size v n xs) (hg : A.grownBy B row) (hr : ∀ r, row = some r → ∃ o : Obj, A.heap[r]? = some o ∧ o.isCells = false) : B.ownsRow base e size v n xs :=
  ⟨h.1, h.2.imp id fun ⟨g, cap, cur, h1, h2, h3, h4⟩ => ⟨g, cap, cur, h1, h2, bx_kept (T := e) (cs := cur) h3 hg hr, h4⟩⟩
theorem kx_grown {X : Nat → Prop} {A B : World} {row : Option Nat} (hg : A.grownBy B row) (hr : ∀ r, row = some r → ∃ o : Obj, A.heap[r]? = some o ∧ o.isCells = false) : Kx X A B :=
  ⟨hg.size, fun k cs T fr hk _ => (hg.block k (Array.getElem?_eq_some_iff.1 hk).1 (fun e => by obtain ⟨o, ho, hc⟩ := hr k e.symm; rw [hk] at ho; cases ho; cases hc)).trans hk⟩
theorem col_own {X : Nat → Prop} {G : Hd → Fo → Prop} {w0 : World} (base B0 : Nat) : Own (Col (X := X) (G := G) (w0 := w0) base B0) := fun _ _ _ _ ⟨v, xs, h1, h2, h3⟩ hg hr => ⟨v, xs, bx_kept h1 hg hr, owns_kept h2 hg hr, h3.kx (kx_grown hg hr)⟩
theorem hmx : Tryz.prog.follows .mixedOrders = true := by kernel_rfl
/-- An append whose run is known, at a step of a region that draws its order. -/
theorem step_append_run {P : Program} {ops : Array Oper} {o : Oper} {a : Act} {w w' : World} {K : Act → World → Prop} {Q : Exit → Act → World → Prop} {E : Prop} {s x : Operand} {t : TypeId} {v u r : Value} (hgd : o.guard = none)
    (ho : o.op = .call { callee := .builtin .append, args := #[s, x], argTypes := #[t, t] }) (hs : a.eval s = v) (hx : a.eval x = u) (hr : (Builtin.append_ #[t, t] o.type #[v, u]).run P w = .ok r w') (h : K (a.put o.dst r) w') :
    if Region.wanted o (yielded ops a.tmps) = true then Oper.wp P o a w K Q else E := by
  have hw : Region.wanted o (yielded ops a.tmps) = true := by simp [Region.wanted, hgd]
  rw [if_pos hw]
  unfold Oper.wp execOp
  simp only [ho, resolve, invoke, builtin, Sem.run_bind, Sem.run_pure, Result.andThen_ok, List.map_toArray, List.map_cons, List.map_nil, hs, hx, hr]
  exact h
theorem set9_list {m : Nat} {xs rest : List Value} (hm : xs.length = m) (z0 z1 z2 z3 z4 z5 z6 z7 z8 a0 a1 a2 a3 a4 a5 a6 a7 a8 : Value) : ((((((((((xs ++ ([z0, z1, z2, z3, z4, z5, z6, z7, z8] ++ rest)).set (m) a0).set (m + 1) a1).set (m + 2) a2).set (m + 3) a3).set (m + 4) a4).set (m + 5) a5).set (m + 6) a6).set (m + 7) a7).set (m + 8) a8) = xs ++ ([a0, a1, a2, a3, a4, a5, a6, a7, a8] ++ rest) := by
  subst hm
  simp
abbrev setR (W : World) (g m : Nat) (a0 a1 a2 a3 a4 a5 a6 a7 a8 : Value) : World := (((((((((W.setCell ⟨g, m, none⟩ a0).setCell ⟨g, m + 1, none⟩ a1).setCell ⟨g, m + 2, none⟩ a2).setCell ⟨g, m + 3, none⟩ a3).setCell ⟨g, m + 4, none⟩ a4).setCell ⟨g, m + 5, none⟩ a5).setCell ⟨g, m + 6, none⟩ a6).setCell ⟨g, m + 7, none⟩ a7).setCell ⟨g, m + 8, none⟩ a8)
theorem setR_same {W : World} {g m : Nat} {T : TypeId} {cur : Array Value} (a0 a1 a2 a3 a4 a5 a6 a7 a8 : Value) (h0 : W.heap[g]? = some (.cells cur T (0, 0))) : (setR W g m a0 a1 a2 a3 a4 a5 a6 a7 a8).heap[g]? = some (.cells (((((((((cur.setIfInBounds (m) a0).setIfInBounds (m + 1) a1).setIfInBounds (m + 2) a2).setIfInBounds (m + 3) a3).setIfInBounds (m + 4) a4).setIfInBounds (m + 5) a5).setIfInBounds (m + 6) a6).setIfInBounds (m + 7) a7).setIfInBounds (m + 8) a8) T (0, 0)) := by
  have h1 : (W.setCell ⟨g, m, none⟩ a0).heap[g]? = some (.cells (cur.setIfInBounds (m) a0) T (0, 0)) := heap_setCell_same W g (m) _ _ a0 h0
  have h2 : ((W.setCell ⟨g, m, none⟩ a0).setCell ⟨g, m + 1, none⟩ a1).heap[g]? = some (.cells ((cur.setIfInBounds (m) a0).setIfInBounds (m + 1) a1) T (0, 0)) := heap_setCell_same (W.setCell ⟨g, m, none⟩ a0) g (m + 1) _ _ a1 h1
  have h3 : (((W.setCell ⟨g, m, none⟩ a0).setCell ⟨g, m + 1, none⟩ a1).setCell ⟨g, m + 2, none⟩ a2).heap[g]? = some (.cells (((cur.setIfInBounds (m) a0).setIfInBounds (m + 1) a1).setIfInBounds (m + 2) a2) T (0, 0)) := heap_setCell_same ((W.setCell ⟨g, m, none⟩ a0).setCell ⟨g, m + 1, none⟩ a1) g (m + 2) _ _ a2 h2
  have h4 : ((((W.setCell ⟨g, m, none⟩ a0).setCell ⟨g, m + 1, none⟩ a1).setCell ⟨g, m + 2, none⟩ a2).setCell ⟨g, m + 3, none⟩ a3).heap[g]? = some (.cells ((((cur.setIfInBounds (m) a0).setIfInBounds (m + 1) a1).setIfInBounds (m + 2) a2).setIfInBounds (m + 3) a3) T (0, 0)) := heap_setCell_same (((W.setCell ⟨g, m, none⟩ a0).setCell ⟨g, m + 1, none⟩ a1).setCell ⟨g, m + 2, none⟩ a2) g (m + 3) _ _ a3 h3
  have h5 : (((((W.setCell ⟨g, m, none⟩ a0).setCell ⟨g, m + 1, none⟩ a1).setCell ⟨g, m + 2, none⟩ a2).setCell ⟨g, m + 3, none⟩ a3).setCell ⟨g, m + 4, none⟩ a4).heap[g]? = some (.cells (((((cur.setIfInBounds (m) a0).setIfInBounds (m + 1) a1).setIfInBounds (m + 2) a2).setIfInBounds (m + 3) a3).setIfInBounds (m + 4) a4) T (0, 0)) := heap_setCell_same ((((W.setCell ⟨g, m, none⟩ a0).setCell ⟨g, m + 1, none⟩ a1).setCell ⟨g, m + 2, none⟩ a2).setCell ⟨g, m + 3, none⟩ a3) g (m + 4) _ _ a4 h4
  have h6 : ((((((W.setCell ⟨g, m, none⟩ a0).setCell ⟨g, m + 1, none⟩ a1).setCell ⟨g, m + 2, none⟩ a2).setCell ⟨g, m + 3, none⟩ a3).setCell ⟨g, m + 4, none⟩ a4).setCell ⟨g, m + 5, none⟩ a5).heap[g]? = some (.cells ((((((cur.setIfInBounds (m) a0).setIfInBounds (m + 1) a1).setIfInBounds (m + 2) a2).setIfInBounds (m + 3) a3).setIfInBounds (m + 4) a4).setIfInBounds (m + 5) a5) T (0, 0)) := heap_setCell_same (((((W.setCell ⟨g, m, none⟩ a0).setCell ⟨g, m + 1, none⟩ a1).setCell ⟨g, m + 2, none⟩ a2).setCell ⟨g, m + 3, none⟩ a3).setCell ⟨g, m + 4, none⟩ a4) g (m + 5) _ _ a5 h5
  have h7 : (((((((W.setCell ⟨g, m, none⟩ a0).setCell ⟨g, m + 1, none⟩ a1).setCell ⟨g, m + 2, none⟩ a2).setCell ⟨g, m + 3, none⟩ a3).setCell ⟨g, m + 4, none⟩ a4).setCell ⟨g, m + 5, none⟩ a5).setCell ⟨g, m + 6, none⟩ a6).heap[g]? = some (.cells (((((((cur.setIfInBounds (m) a0).setIfInBounds (m + 1) a1).setIfInBounds (m + 2) a2).setIfInBounds (m + 3) a3).setIfInBounds (m + 4) a4).setIfInBounds (m + 5) a5).setIfInBounds (m + 6) a6) T (0, 0)) := heap_setCell_same ((((((W.setCell ⟨g, m, none⟩ a0).setCell ⟨g, m + 1, none⟩ a1).setCell ⟨g, m + 2, none⟩ a2).setCell ⟨g, m + 3, none⟩ a3).setCell ⟨g, m + 4, none⟩ a4).setCell ⟨g, m + 5, none⟩ a5) g (m + 6) _ _ a6 h6
  have h8 : ((((((((W.setCell ⟨g, m, none⟩ a0).setCell ⟨g, m + 1, none⟩ a1).setCell ⟨g, m + 2, none⟩ a2).setCell ⟨g, m + 3, none⟩ a3).setCell ⟨g, m + 4, none⟩ a4).setCell ⟨g, m + 5, none⟩ a5).setCell ⟨g, m + 6, none⟩ a6).setCell ⟨g, m + 7, none⟩ a7).heap[g]? = some (.cells ((((((((cur.setIfInBounds (m) a0).setIfInBounds (m + 1) a1).setIfInBounds (m + 2) a2).setIfInBounds (m + 3) a3).setIfInBounds (m + 4) a4).setIfInBounds (m + 5) a5).setIfInBounds (m + 6) a6).setIfInBounds (m + 7) a7) T (0, 0)) := heap_setCell_same (((((((W.setCell ⟨g, m, none⟩ a0).setCell ⟨g, m + 1, none⟩ a1).setCell ⟨g, m + 2, none⟩ a2).setCell ⟨g, m + 3, none⟩ a3).setCell ⟨g, m + 4, none⟩ a4).setCell ⟨g, m + 5, none⟩ a5).setCell ⟨g, m + 6, none⟩ a6) g (m + 7) _ _ a7 h7
  have h9 : (((((((((W.setCell ⟨g, m, none⟩ a0).setCell ⟨g, m + 1, none⟩ a1).setCell ⟨g, m + 2, none⟩ a2).setCell ⟨g, m + 3, none⟩ a3).setCell ⟨g, m + 4, none⟩ a4).setCell ⟨g, m + 5, none⟩ a5).setCell ⟨g, m + 6, none⟩ a6).setCell ⟨g, m + 7, none⟩ a7).setCell ⟨g, m + 8, none⟩ a8).heap[g]? = some (.cells (((((((((cur.setIfInBounds (m) a0).setIfInBounds (m + 1) a1).setIfInBounds (m + 2) a2).setIfInBounds (m + 3) a3).setIfInBounds (m + 4) a4).setIfInBounds (m + 5) a5).setIfInBounds (m + 6) a6).setIfInBounds (m + 7) a7).setIfInBounds (m + 8) a8) T (0, 0)) := heap_setCell_same ((((((((W.setCell ⟨g, m, none⟩ a0).setCell ⟨g, m + 1, none⟩ a1).setCell ⟨g, m + 2, none⟩ a2).setCell ⟨g, m + 3, none⟩ a3).setCell ⟨g, m + 4, none⟩ a4).setCell ⟨g, m + 5, none⟩ a5).setCell ⟨g, m + 6, none⟩ a6).setCell ⟨g, m + 7, none⟩ a7) g (m + 8) _ _ a8 h8
  exact h9
theorem setR_other {W : World} {g m : Nat} (a0 a1 a2 a3 a4 a5 a6 a7 a8 : Value) {b : Nat} (hb : b ≠ g) : (setR W g m a0 a1 a2 a3 a4 a5 a6 a7 a8).heap[b]? = W.heap[b]? := by
  simp only [setR]
  iterate 9 rw [Below.heap_setCell _ ⟨g, _, none⟩ _ b hb]
theorem size_setR {W : World} {g m : Nat} (a0 a1 a2 a3 a4 a5 a6 a7 a8 : Value) : (setR W g m a0 a1 a2 a3 a4 a5 a6 a7 a8).heap.size = W.heap.size := by simp only [setR, World.size_setCell]
theorem below_setR {w W : World} {n0 g m : Nat} (a0 a1 a2 a3 a4 a5 a6 a7 a8 : Value) (hb : Below n0 w W) (hB : n0 ≤ g) : Below n0 w (setR W g m a0 a1 a2 a3 a4 a5 a6 a7 a8) := by
  simp only [setR]
  iterate 9 refine Below.setCell ?_ (show n0 ≤ (⟨g, _, none⟩ : Addr).block from hB) _
  exact hb
/-- An element written into the last place of an owned row. -/
theorem owns_setR {W : World} {base g n cap : Nat} {T : TypeId} {xs : List Value} {z0 z1 z2 z3 z4 z5 z6 z7 z8 : Value} (a0 a1 a2 a3 a4 a5 a6 a7 a8 : Value) (h : W.ownsRow base T 9 (.slice (some ⟨g, 0, none⟩) (n + 1) cap) (n + 1) (xs ++ [z0, z1, z2, z3, z4, z5, z6, z7, z8])) (hx : xs.length = n * 9) {W' : World} (hW : W'.heap[g]? = W.heap[g]?) :
    (setR W' g (n * 9) a0 a1 a2 a3 a4 a5 a6 a7 a8).ownsRow base T 9 (.slice (some ⟨g, 0, none⟩) (n + 1) cap) (n + 1) (xs ++ [a0, a1, a2, a3, a4, a5, a6, a7, a8]) := by
  obtain ⟨h1, ⟨h2, _⟩ | ⟨g', cap', cur, h2, h3, h4, h5, h6, h7, h8⟩⟩ := h
  · cases h2
  · cases h2
    refine ⟨by simp [hx]; omega, .inr ⟨g, cap, _, rfl, h3, setR_same a0 a1 a2 a3 a4 a5 a6 a7 a8 (hW.trans h4), h5, h6, by simpa using h7, ?_⟩⟩
    have hl : cur.toList = xs ++ ([z0, z1, z2, z3, z4, z5, z6, z7, z8] ++ cur.toList.drop ((n + 1) * 9)) := by
      rw [← List.append_assoc, ← h8, List.take_append_drop]
    simp only [Array.toList_setIfInBounds]
    rw [hl, set9_list hx]
    rw [← List.append_assoc, List.take_append_of_le_length (by simp [hx]; omega), List.take_of_length_le (by simp [hx]; omega)]
theorem col_end {w W0 W Wf : World} {pre : List (Ix (fun b => b = w.heap.size ∨ W0.heap.size ≤ b) Gt W0)} {x : Ix (fun b => b = w.heap.size ∨ W0.heap.size ≤ b) Gt W0} {u v3 : Value} {xs : List Value} (hs0 : W0.heap.size = w.heap.size + 1)
    (hO : W.ownsRow W0.heap.size 28 9 u pre.length xs) (hR : Rw (fun b => ¬ (fun b => b = w.heap.size ∨ W0.heap.size ≤ b) b) W (foOf pre) xs) (hK : Kx (fun b => b = w.heap.size ∨ W0.heap.size ≤ b) W0 W)
    (f1 : ∀ k, k < W.heap.size → k ≠ w.heap.size → u.ownBlock ≠ some k → Wf.heap[k]? = W.heap[k]?) (f2 : W.heap.size ≤ Wf.heap.size) (f3 : Bx Wf w.heap.size #[v3] 26)
    (f4 : Wf.ownsRow W0.heap.size 28 9 v3 (pre.length + 1) (xs ++ (x.1.h.cells x.1.v).toList)) (f5 : Below w.heap.size w Wf) :
    KeepsFrom W0.heap.size W Wf ∧ Kx (fun b => b = w.heap.size ∨ W0.heap.size ≤ b) W Wf ∧ (Col W0.heap.size w.heap.size (pre ++ [x]) Wf ∧ Below w.heap.size w Wf ∧ Kx (fun b => b = w.heap.size ∨ W0.heap.size ≤ b) W0 Wf) := by
  have hkx : Kx (fun b => b = w.heap.size ∨ W0.heap.size ≤ b) W Wf := ⟨f2, fun k cs T fr hk hx => (f1 k (Array.getElem?_eq_some_iff.1 hk).1 (fun e => hx (.inl e)) (fun e => hx (.inr (owns_block hO e).1))).trans hk⟩
  refine ⟨⟨f2, fun k o hB hk ho => (f1 k (Array.getElem?_eq_some_iff.1 hk).1 (by omega) (fun e => ?_)).trans hk⟩, hkx, ⟨v3, _, f3, by rw [List.length_append, List.length_singleton]; exact f4, ?_⟩, f5, hK.trans hkx⟩
  · obtain ⟨_, ⟨rfl, _⟩ | ⟨g, cap, cur, rfl, h3, h4, _⟩⟩ := hO
    · cases e
    · cases e
      rw [show W.heap[g]? = _ from h4] at hk
      cases hk
      cases ho
  · rw [foOf_app]
    exact rw_app (hR.kx hkx) ⟨x.1.v, [], by simp, x.2.1.kx (hK.trans hkx), x.2.2.1, rfl⟩
set_option maxRecDepth 100000 in
set_option maxHeartbeats 3000000 in
theorem AppendSeq_calls (f : Fo) (v : Value) (Bs : Nat) (w : World) (hs : w.cell? ⟨Bs, 0, none⟩ = some v) (hk : Kd An w v f) (hfl : f.len < 1353245080301) :
    Calls Tryz.prog 170 #[.slice none 0 0, .func (.func 171) #[] #[.pointer (some ⟨Bs, 0, none⟩)]] w fun o w' => ∃ v', o = .returned v' ∧ Kd An w' v' (keysF f) ∧ Below w.heap.size w w' := by
  have HS := Lib.hid hs
  have HK := Lib.hid hk
  clear hs hk
  refine (callsIn_wide (n := 5)).1 ?_
  refine callsIn_of_wp_marks Tryz.func170 rfl trivial ?_ rfl
  simp only [Tryz.ntmps170, List.size_toArray, List.length_cons, List.length_nil, Nat.reduceAdd, Nat.reduceSub, Array.replicate_succ, Array.replicate_zero, List.push_toArray, List.append_toArray, List.nil_append, List.cons_append]
  gi_wp2
  obtain ⟨W0, hW0⟩ : ∃ W0, W0 = w.alloc (.cells #[.slice none 0 0] 26) := ⟨_, rfl⟩
  rw [← hW0]
  have a0 : Bx W0 w.heap.size #[.slice none 0 0] 26 := by rw [hW0]; exact Bx.new w _ _
  have hB0 : Below w.heap.size w W0 := by rw [hW0]; exact below_a (Below.refl _ w) _
  have hs0 : W0.heap.size = w.heap.size + 1 := by rw [hW0]; simp
  have HS0 := Lib.hid hs0
  have hBs := lt_of_cell0 HS.out
  have hst := keys_stops (fun b => b = w.heap.size ∨ W0.heap.size ≤ b) Gt W0 f v Bs ((hB0.cell (p := ⟨Bs, 0, none⟩) hBs).trans HS.out) (by rintro (h | h) <;> omega) ((HK.out.mono (Q := fun b => ¬ (b = w.heap.size ∨ W0.heap.size ≤ b)) fun b _ h1 => by rintro (h | h) <;> omega).below hB0) (allGt _) hfl (5 - 1) (by decide)
  have HST := Lib.hid hst
  clear hW0 hs0 hst
  refine wpIn_rangeFunc_ownH rfl (by omega) (gf := 171) rfl trivial (enters_of Tryz.func171 (by kernel_rfl) rfl) HST.out Kx.trans (fun W l o o' _ h hc _ => Kx.putObj W l o o' h hc) (Below.refl _ _) (fun _ => rfl)
    (fun pre W => Col W0.heap.size w.heap.size pre W ∧ Below w.heap.size w W ∧ Kx (fun b => b = w.heap.size ∨ W0.heap.size ≤ b) W0 W)
    (fun _ _ _ => False)
    (OwnFrom.and (Own.from (col_own _ _) _) (OwnFrom.and (ownFrom_below (Nat.le_refl _) (by rw [HS0.out]; omega)) (fun _ _ _ _ hs hg hr => hs.trans (kx_grown hg (fun r e => (hr r e).2)))))
    (fun _ _ _ _ _ h _ _ => h.elim)
    ⟨⟨_, [], a0, World.ownsRow_nil _ _ _ _, rfl⟩, hB0, Kx.refl _ _⟩
    (fun x a' W => ∃ C, W0.heap.size ≤ C ∧ Nx W C x.1.h x.1.v ∧ (∀ v, Bx W w.heap.size #[v] 26 → v.ownBlock ≠ some C) ∧ a' = { tmps := #[.slice none 0 0, .func (.func 171) #[] #[.pointer (some ⟨Bs, 0, none⟩)], .pointer (some ⟨w.heap.size, 0, none⟩), undef, .slice none 0 0, .pointer (some ⟨C, 0, none⟩), .func (.func 171) #[] #[.pointer (some ⟨Bs, 0, none⟩)], .agg #[.int .i64 x.1.h.kind, .bool x.1.h.b, .bool x.1.h.neg, .string x.1.h.dig, .int .i64 x.1.h.exp, .int .u64 (x.1.h.u : Int), .int .i64 x.1.h.w, .string x.1.h.s, x.1.v], undef, undef, undef, undef, undef, undef, undef], defers := [] })
    (fun x a' _ _ _ _ hs hg hr => by
      obtain ⟨C, h1, h2, h4, h3⟩ := hs
      exact ⟨C, h1, bx_kept h2 hg (fun r e => (hr r e).2), fun v hv => h4 v ((hg.block _ (by have := h2.lt; have := HS0.out; omega) (fun e => by have := (hr _ e.symm).1; have := HS0.out; omega)).symm.trans hv), h3⟩)
    ?_ ?_ ?_ ?_
  · intro l pre x W K hI hK
    have hz : W0.heap.size ≤ W.heap.size := by
      obtain ⟨⟨v', xs, h1, _⟩, _, _⟩ := hI
      have := h1.lt
      have := HS0.out
      omega
    have HI := Lib.hid hI
    have HKK := Lib.hid hK
    clear hI hK a0 hB0
    obtain ⟨⟨d', h', v', k'⟩, hkx, hux, hdx⟩ := x
    obtain ⟨A', c', hv', _, _, _⟩ := hkx.form
    dsimp only at hv'
    subst hv'
    simp only [encK, Hd.cells] at HKK ⊢
    gi_wp2
    obtain ⟨⟨u, xs, i1, i2, i3⟩, i5, i6⟩ := HI.out
    exact HKK.out _ _ ((KeepsOthers.alloc _ _).from _) ((Kx.refl _ _).alloc _) ⟨⟨u, xs, i1.alloc _, i2.alloc _, i3.kx ((Kx.refl _ _).alloc _)⟩, below_a i5 _, i6.alloc _⟩ ⟨W.heap.size, hz, Nx.new W _ _, fun v' hv' e => by
      have h1 := i1.alloc (.cells #[.int .i64 h'.kind, .bool h'.b, .bool h'.neg, .string h'.dig, .int .i64 h'.exp, .int .u64 (h'.u : Int), .int .i64 h'.w, .string h'.s, .slice A' k'.len c'] 28)
      have h2 : v' = u := by
        have h3 := Option.some.inj ((show _ = some _ from hv').symm.trans (show _ = some _ from h1))
        simp at h3
        exact h3
      rw [h2] at e
      have := (owns_block i2 e).2
      omega, rfl⟩
  · rintro l pre x a' W hl hlo ⟨⟨u, xs, i1, i2, i3⟩, i5, i6⟩ ⟨C, hC, hx, hne, rfl⟩ hlen
    obtain ⟨⟨d', h', v', k'⟩, hkx, hux, hdx⟩ := x
    obtain ⟨A', c', hv', _, _, _⟩ := hkx.form
    dsimp only at hv'
    subst hv'
    dsimp only at hx hkx hux
    have HI1 := Lib.hid (show Bx W.drew _ _ _ from i1)
    have HO := Lib.hid (show W.drew.ownsRow _ _ _ _ _ _ from i2)
    have HR := Lib.hid (i3.kx (show Kx _ W W.drew from ⟨Nat.le_refl _, fun _ _ _ _ h _ => h⟩))
    have HI5 := Lib.hid i5
    have HI6 := Lib.hid i6
    have HOW := Lib.hid i2
    have HRW := Lib.hid i3
    have hCB : C ≠ w.heap.size := by have := HS0.out; omega
    have HX := Lib.hid (show Nx W.drew C h' _ from hx)
    have hneC := hne u i1
    have HKd := Lib.hid hkx
    have hzW : W0.heap.size ≤ W.heap.size := Nat.le_of_lt (Nat.lt_of_le_of_lt hC hx.lt)
    have hCW : C < W.heap.size := hx.lt
    have hB0W : w.heap.size < W.heap.size := by have := HS0.out; omega
    obtain ⟨AU, cU, hU⟩ : ∃ AU cU, u = .slice AU pre.length cU := by
      obtain ⟨_, ⟨h, h'⟩ | ⟨g, cap, cur, h, _⟩⟩ := i2
      · exact ⟨none, 0, by rw [h, h']⟩
      · exact ⟨_, _, h⟩
    subst hU
    have s0 := (show Bx W.drew _ _ _ from i1).c 0 rfl
    have s2 : W.cell? ⟨w.heap.size, 0, none⟩ = some (.slice AU pre.length cU) := i1.c 0 rfl
    have s1 := ((show Bx W.drew _ _ _ from i1).alloc (.cells #[.int .i64 0, .bool false, .bool false, .string ⟨#[]⟩, .int .i64 0, .int .u64 0, .int .i64 0, .string ⟨#[]⟩, .slice none 0 0] 28)).c 0 rfl
    obtain ⟨i0, hi0, hz0, hz1, hz2⟩ := infoN_parts
    have hHeld : (fun w' : World => w'.cell? ⟨C, 0, none⟩ = some (.int .i64 h'.kind) ∧ w'.cell? ⟨C, 1, none⟩ = some (.bool h'.b) ∧ w'.cell? ⟨C, 2, none⟩ = some (.bool h'.neg) ∧ w'.cell? ⟨C, 3, none⟩ = some (.string h'.dig) ∧ w'.cell? ⟨C, 4, none⟩ = some (.int .i64 h'.exp) ∧ w'.cell? ⟨C, 5, none⟩ = some (.int .u64 (h'.u : Int)) ∧ w'.cell? ⟨C, 6, none⟩ = some (.int .i64 h'.w) ∧ w'.cell? ⟨C, 7, none⟩ = some (.string h'.s) ∧ w'.cell? ⟨C, 8, none⟩ = some (.slice A' k'.len c')) W.drew := HX.out.nine
    obtain ⟨g, cap, w3, hrun, hown3, hg3, hgg, hgl⟩ := run_append_lies (P := Tryz.prog) (W.drew.alloc (.cells #[.int .i64 0, .bool false, .bool false, .string ⟨#[]⟩, .int .i64 0, .int .u64 0, .int .i64 0, .string ⟨#[]⟩, .slice none 0 0] 28)) 26 26 W0.heap.size 28 i0 _ 9 104 Tryz.underlying26 hi0 hz0 hz1 hz2 rfl (by decide) (.slice AU pre.length cU) pre.length xs (HO.out.alloc _) ⟨W.drew.heap.size, 0, none⟩ 1 1 (#[.int .i64 0, .bool false, .bool false, .string ⟨#[]⟩, .int .i64 0, .int .u64 0, .int .i64 0, .string ⟨#[]⟩, .slice none 0 0]).toList rfl (news_blk _ (heap_alloc_new W.drew _)) (by intro u hu; simp only [List.mem_cons, List.not_mem_nil, or_false] at hu; rcases hu with rfl | rfl | rfl | rfl | rfl | rfl | rfl | rfl | rfl <;> rfl) (by decide) (by unfold maxLen; omega) (by omega) (by simp; omega) _ rfl
    have HO3 := Lib.hid hown3
    have HG3 := Lib.hid hg3
    have hgB : W0.heap.size ≤ g := by
      obtain ⟨_, ⟨h, _⟩ | ⟨g', _, _, h, h', _⟩⟩ := hown3
      · cases h
      · cases h; exact h'
    have hgC : C ≠ g := by
      rintro rfl
      rcases hgg with h | h
      · exact hneC h
      · rw [World.size_alloc] at h; have h' : C = W.heap.size + 1 := h; omega
    have HC3 := Lib.hid (show Nx w3 C h' (.slice A' k'.len c') from (hg3.block C (by simp; omega) (fun e => hneC e.symm)).trans (HX.out.alloc _))
    have HB3 := Lib.hid (show Bx w3 w.heap.size #[.slice AU pre.length cU] 26 from (hg3.block _ (by have := HS0.out; simp; omega) (fun e => by have := owns_block HO.out e.symm; have := HS0.out; omega)).trans (HI1.out.alloc _))
    have hxl : xs.length = pre.length * 9 := HO.out.1
    have HRow : Hid (∀ W' : World, W'.heap[g]? = w3.heap[g]? → (W'.cell? ⟨g, pre.length * 9, none⟩ = some (.int .i64 0) ∧ W'.cell? ⟨g, pre.length * 9 + 1, none⟩ = some (.bool false) ∧ W'.cell? ⟨g, pre.length * 9 + 2, none⟩ = some (.bool false) ∧ W'.cell? ⟨g, pre.length * 9 + 3, none⟩ = some (.string ⟨#[]⟩) ∧ W'.cell? ⟨g, pre.length * 9 + 4, none⟩ = some (.int .i64 0) ∧ W'.cell? ⟨g, pre.length * 9 + 5, none⟩ = some (.int .u64 0) ∧ W'.cell? ⟨g, pre.length * 9 + 6, none⟩ = some (.int .i64 0) ∧ W'.cell? ⟨g, pre.length * 9 + 7, none⟩ = some (.string ⟨#[]⟩) ∧ W'.cell? ⟨g, pre.length * 9 + 8, none⟩ = some (.slice none 0 0)) ∧ ∀ i, W'.frozen? ⟨g, i, none⟩ = false) := Lib.hid (fun W' hW' => by
      obtain ⟨_, ⟨h, _⟩ | ⟨g', cap', cur, h, _, hc, _, _, hsz, htk⟩⟩ := HO3.out
      · cases h
      · cases h
        have hcell : ∀ (i : Nat) (z : Value), ([.int .i64 0, .bool false, .bool false, .string ⟨#[]⟩, .int .i64 0, .int .u64 0, .int .i64 0, .string ⟨#[]⟩, .slice none 0 0] : List Value)[i]? = some z → W'.cell? ⟨g, pre.length * 9 + i, none⟩ = some z := fun i z hz => by
          have hi : i < 9 := by
            rcases Nat.lt_or_ge i 9 with h | h
            · exact h
            · rw [List.getElem?_eq_none (by simpa using h)] at hz; cases hz
          have h1 : cur.toList[pre.length * 9 + i]? = some z := by
            have h2 : (cur.toList.take ((pre.length + 1) * 9))[pre.length * 9 + i]? = some z := by
              rw [htk, List.getElem?_append_right (by omega), hxl, Nat.add_sub_cancel_left]
              exact hz
            rwa [List.getElem?_take_of_lt (by omega)] at h2
          have h3 := hW'.trans hc
          simp only [World.cell?, h3]
          rw [Array.getElem?_toList] at h1
          simpa using h1
        exact ⟨⟨hcell 0 _ rfl, hcell 1 _ rfl, hcell 2 _ rfl, hcell 3 _ rfl, hcell 4 _ rfl, hcell 5 _ rfl, hcell 6 _ rfl, hcell 7 _ rfl, hcell 8 _ rfl⟩, fun i => frozen_of_row W' g i _ _ (hW'.trans hc)⟩)
    clear i1 i2 i3 i5 i6 hx hne hown3 hg3 hi0 hz0 hz1 hz2 a0 hB0 hlo
    gi_wp2
    refine region_round hmx (by kernel_rfl) (by rintro ⟨_, _, h⟩; exact h) ?_
    refine wpAny_of_held (S := fun w' => w'.cell? ⟨C, 0, none⟩ = some (.int .i64 h'.kind) ∧ w'.cell? ⟨C, 1, none⟩ = some (.bool h'.b) ∧ w'.cell? ⟨C, 2, none⟩ = some (.bool h'.neg) ∧ w'.cell? ⟨C, 3, none⟩ = some (.string h'.dig) ∧ w'.cell? ⟨C, 4, none⟩ = some (.int .i64 h'.exp) ∧ w'.cell? ⟨C, 5, none⟩ = some (.int .u64 (h'.u : Int)) ∧ w'.cell? ⟨C, 6, none⟩ = some (.int .i64 h'.w) ∧ w'.cell? ⟨C, 7, none⟩ = some (.string h'.s) ∧ w'.cell? ⟨C, 8, none⟩ = some (.slice A' k'.len c')) _ _ _ _ ?_
    refine wpAnyH_take (i := 1) (v := .agg #[.int .i64 h'.kind, .bool h'.b, .bool h'.neg, .string h'.dig, .int .i64 h'.exp, .int .u64 (h'.u : Int), .int .i64 h'.w, .string h'.s, .slice A' k'.len c']) rfl (by kernel_rfl) (by kernel_rfl) (by kernel_rfl) (fun _ _ _ h => h) (Or.inl ⟨by rfl, by rintro w ⟨h0, h1, h2, h3, h4, h5, h6, h7, h8⟩; go_simp⟩) hHeld ?_
    refine wpAnyH_ready (rs := [0, 3]) (by kernel_rfl) (by simp) ?_
    refine AllReadyH.cons rfl (fun K hK => ?_) (AllReadyH.cons rfl (fun K hK => ?_) AllReadyH.nil)
    · go_simp
      refine hK.out _ _ hHeld (fun hHeld => ?_)
      clear hK K
      refine wpAnyH_take (i := 2) (v := .int .i64 (pre.length : Int)) rfl (by kernel_rfl) (by kernel_rfl) (by kernel_rfl) (fun _ _ _ h => h) (Or.inl ⟨by rfl, by rintro w ⟨h0, h1, h2, h3, h4, h5, h6, h7, h8⟩; go_simp⟩) hHeld ?_
      refine wpAnyH_ready (rs := [3]) (by kernel_rfl) (by simp) ?_
      refine AllReadyH.cons rfl (fun K hK => ?_) AllReadyH.nil
      go_simp
      refine hK.out _ _ (HX.out.alloc _).nine (fun hHeld => ?_)
      clear hK K
      refine wpAnyH_ready (rs := [4]) (by kernel_rfl) (by simp) ?_
      refine AllReadyH.cons rfl (fun K hK => ?_) AllReadyH.nil
      refine step_append_run (v := .slice AU pre.length cU) (u := .slice (some ⟨W.drew.heap.size, 0, none⟩) 1 1) rfl rfl (by go_simp) (by go_simp) hrun ?_
      refine hK.out _ _ HC3.out.nine (fun hHeld => ?_)
      clear hK K
      refine wpAnyH_take (i := 5) (v := .pointer (some ⟨g, pre.length * 9, none⟩)) rfl (by kernel_rfl) (by kernel_rfl) (by kernel_rfl) (fun _ _ _ h => h) (Or.inl ⟨by rfl, by rintro w ⟨h0, h1, h2, h3, h4, h5, h6, h7, h8⟩; go_simp; intro h; exfalso; omega⟩) hHeld ?_
      refine wpAnyH_ready (rs := [6, 7]) (by kernel_rfl) (by simp) ?_
      refine AllReadyH.cons rfl (fun K hK => ?_) (AllReadyH.cons rfl (fun K hK => ?_) AllReadyH.nil)
      · have hgw : g < w3.heap.size := hgl
        obtain ⟨⟨e0, e1, e2, e3, e4, e5, e6, e7, e8⟩, ef⟩ := HRow.out w3 rfl
        have f0 := ef (pre.length * 9)
        have f1 := ef (pre.length * 9 + 1)
        have f2 := ef (pre.length * 9 + 2)
        have f3 := ef (pre.length * 9 + 3)
        have f4 := ef (pre.length * 9 + 4)
        have f5 := ef (pre.length * 9 + 5)
        have f6 := ef (pre.length * 9 + 6)
        have f7 := ef (pre.length * 9 + 7)
        have f8 := ef (pre.length * 9 + 8)
        clear ef
        go_simp
        clear e0 e1 e2 e3 e4 e5 e6 e7 e8 f0 f1 f2 f3 f4 f5 f6 f7 f8
        obtain ⟨W5, hW5⟩ : ∃ W5, W5 = setR w3 g (pre.length * 9) (.int .i64 h'.kind) (.bool h'.b) (.bool h'.neg) (.string h'.dig) (.int .i64 h'.exp) (.int .u64 (h'.u : Int)) (.int .i64 h'.w) (.string h'.s) (.slice A' k'.len c') := ⟨_, rfl⟩
        have HC4 := Lib.hid (show Nx W5 C h' (.slice A' k'.len c') from by rw [hW5]; exact (setR_other (.int .i64 h'.kind) (.bool h'.b) (.bool h'.neg) (.string h'.dig) (.int .i64 h'.exp) (.int .u64 (h'.u : Int)) (.int .i64 h'.w) (.string h'.s) (.slice A' k'.len c') hgC).trans HC3.out)
        have HB4 := Lib.hid (show Bx W5 w.heap.size #[.slice AU pre.length cU] 26 from by rw [hW5]; exact (setR_other (.int .i64 h'.kind) (.bool h'.b) (.bool h'.neg) (.string h'.dig) (.int .i64 h'.exp) (.int .u64 (h'.u : Int)) (.int .i64 h'.w) (.string h'.s) (.slice A' k'.len c') (by have := HS0.out; omega)).trans HB3.out)
        have HE5 := Lib.hid hW5
        simp only [setR] at hW5
        rw [← hW5]
        clear hW5
        refine hK.out _ _ HC4.out.nine (fun hHeld => ?_)
        clear hK K
        refine wpAnyH_ready (rs := [7]) (by kernel_rfl) (by simp) ?_
        refine AllReadyH.cons rfl (fun K hK => ?_) AllReadyH.nil
        have e0 := HB4.out.c 0 rfl
        have f0 := HB4.out.f 0
        have l0 := HB4.out.lt
        go_simp
        refine hK.out _ _ (HC4.out.off hCB).nine (fun hHeld => ?_)
        clear hK K
        refine wpAnyH_done (by kernel_rfl) ?_ _
        clear hHeld e0 f0 l0
        gi_wp2
        refine col_end (u := .slice AU pre.length cU) HS0.out HOW.out HRW.out HI6.out ?_ ?_ (HB4.out.set 0 _) ?_ ?_
        · intro k hk1 hk2 hk3
          rw [Below.heap_setCell _ ⟨w.heap.size, 0, none⟩ _ k hk2, HE5.out]
          have hkg : k ≠ g := by
            rintro rfl
            rcases hgg with h | h
            · exact hk3 h
            · rw [World.size_alloc] at h; have h' : k = W.heap.size + 1 := h; omega
          rw [setR_other (.int .i64 h'.kind) (.bool h'.b) (.bool h'.neg) (.string h'.dig) (.int .i64 h'.exp) (.int .u64 (h'.u : Int)) (.int .i64 h'.w) (.string h'.s) (.slice A' k'.len c') hkg]
          exact (HG3.out.block k (by rw [World.size_alloc]; show k < W.heap.size + 1; omega) (fun e => hk3 e.symm)).trans (Below.heap_alloc W.drew _ k hk1)
        · rw [World.size_setCell, HE5.out, size_setR]
          have := HG3.out.size
          rw [World.size_alloc] at this
          have h' : W.heap.size + 1 ≤ w3.heap.size := this
          omega
        · have h1 := owns_setR (.int .i64 h'.kind) (.bool h'.b) (.bool h'.neg) (.string h'.dig) (.int .i64 h'.exp) (.int .u64 (h'.u : Int)) (.int .i64 h'.w) (.string h'.s) (.slice A' k'.len c') HO3.out hxl (W' := w3) rfl
          rw [← HE5.out] at h1
          exact ownsRow_setCell_below h1 (show w.heap.size < W0.heap.size by have := HS0.out; omega) _
        · refine Below.setCell ?_ (show w.heap.size ≤ w.heap.size from Nat.le_refl _) _
          rw [HE5.out]
          refine below_setR (.int .i64 h'.kind) (.bool h'.b) (.bool h'.neg) (.string h'.dig) (.int .i64 h'.exp) (.int .u64 (h'.u : Int)) (.int .i64 h'.w) (.string h'.s) (.slice A' k'.len c') ?_ (by have := HS0.out; omega)
          exact (below_a HI5.out.drew _).grown HG3.out (by rw [World.size_alloc]; have h' : w.heap.size ≤ W.heap.size := Nat.le_of_lt hB0W; show w.heap.size ≤ W.heap.size + 1; omega) (fun r e => by have := (owns_block HO.out e).1; have := HS0.out; omega)
      · have hgw : g < w3.heap.size := hgl
        have e0 := HB3.out.c 0 rfl
        have f0 := HB3.out.f 0
        have l0 := HB3.out.lt
        go_simp
        clear e0 f0 l0
        obtain ⟨W5, hW5⟩ : ∃ W5, W5 = w3.setCell ⟨w.heap.size, 0, none⟩ (.slice (some ⟨g, 0, none⟩) (pre.length + 1) cap) := ⟨_, rfl⟩
        have HC4 := Lib.hid (show Nx W5 C h' (.slice A' k'.len c') from by rw [hW5]; exact HC3.out.off hCB)
        have HB4 := Lib.hid (show Bx W5 w.heap.size #[.slice (some ⟨g, 0, none⟩) (pre.length + 1) cap] 26 from by rw [hW5]; exact HB3.out.set 0 _)
        have hg5 : W5.heap[g]? = w3.heap[g]? := by rw [hW5]; exact Below.heap_setCell _ ⟨w.heap.size, 0, none⟩ _ g (show g ≠ w.heap.size by have := HS0.out; omega)
        have hgw5 : g < W5.heap.size := by rw [hW5, World.size_setCell]; exact hgw
        have HE5 := Lib.hid hW5
        rw [← hW5]
        clear hW5
        refine hK.out _ _ HC4.out.nine (fun hHeld => ?_)
        clear hK K
        refine wpAnyH_ready (rs := [6]) (by kernel_rfl) (by simp) ?_
        refine AllReadyH.cons rfl (fun K hK => ?_) AllReadyH.nil
        obtain ⟨⟨e0, e1, e2, e3, e4, e5, e6, e7, e8⟩, ef⟩ := HRow.out W5 hg5
        have f0 := ef (pre.length * 9)
        have f1 := ef (pre.length * 9 + 1)
        have f2 := ef (pre.length * 9 + 2)
        have f3 := ef (pre.length * 9 + 3)
        have f4 := ef (pre.length * 9 + 4)
        have f5 := ef (pre.length * 9 + 5)
        have f6 := ef (pre.length * 9 + 6)
        have f7 := ef (pre.length * 9 + 7)
        have f8 := ef (pre.length * 9 + 8)
        clear ef
        go_simp
        clear e0 e1 e2 e3 e4 e5 e6 e7 e8 f0 f1 f2 f3 f4 f5 f6 f7 f8
        obtain ⟨W6, hW6⟩ : ∃ W6, W6 = setR W5 g (pre.length * 9) (.int .i64 h'.kind) (.bool h'.b) (.bool h'.neg) (.string h'.dig) (.int .i64 h'.exp) (.int .u64 (h'.u : Int)) (.int .i64 h'.w) (.string h'.s) (.slice A' k'.len c') := ⟨_, rfl⟩
        have HC6 := Lib.hid (show Nx W6 C h' (.slice A' k'.len c') from by rw [hW6]; exact (setR_other (.int .i64 h'.kind) (.bool h'.b) (.bool h'.neg) (.string h'.dig) (.int .i64 h'.exp) (.int .u64 (h'.u : Int)) (.int .i64 h'.w) (.string h'.s) (.slice A' k'.len c') hgC).trans HC4.out)
        have HB6 := Lib.hid (show Bx W6 w.heap.size #[.slice (some ⟨g, 0, none⟩) (pre.length + 1) cap] 26 from by rw [hW6]; exact (setR_other (.int .i64 h'.kind) (.bool h'.b) (.bool h'.neg) (.string h'.dig) (.int .i64 h'.exp) (.int .u64 (h'.u : Int)) (.int .i64 h'.w) (.string h'.s) (.slice A' k'.len c') (by have := HS0.out; omega)).trans HB4.out)
        have HE6 := Lib.hid hW6
        simp only [setR] at hW6
        rw [← hW6]
        clear hW6
        refine hK.out _ _ HC6.out.nine (fun hHeld => ?_)
        clear hK K
        refine wpAnyH_done (by kernel_rfl) ?_ _
        clear hHeld
        gi_wp2
        refine col_end (u := .slice AU pre.length cU) HS0.out HOW.out HRW.out HI6.out ?_ ?_ HB6.out ?_ ?_
        · intro k hk1 hk2 hk3
          rw [HE6.out]
          have hkg : k ≠ g := by
            rintro rfl
            rcases hgg with h | h
            · exact hk3 h
            · rw [World.size_alloc] at h; have h' : k = W.heap.size + 1 := h; omega
          rw [setR_other (.int .i64 h'.kind) (.bool h'.b) (.bool h'.neg) (.string h'.dig) (.int .i64 h'.exp) (.int .u64 (h'.u : Int)) (.int .i64 h'.w) (.string h'.s) (.slice A' k'.len c') hkg, HE5.out, Below.heap_setCell _ ⟨w.heap.size, 0, none⟩ _ k hk2]
          exact (HG3.out.block k (by rw [World.size_alloc]; show k < W.heap.size + 1; omega) (fun e => hk3 e.symm)).trans (Below.heap_alloc W.drew _ k hk1)
        · rw [HE6.out, size_setR, HE5.out, World.size_setCell]
          have := HG3.out.size
          rw [World.size_alloc] at this
          have h' : W.heap.size + 1 ≤ w3.heap.size := this
          omega
        · have h1 := owns_setR (.int .i64 h'.kind) (.bool h'.b) (.bool h'.neg) (.string h'.dig) (.int .i64 h'.exp) (.int .u64 (h'.u : Int)) (.int .i64 h'.w) (.string h'.s) (.slice A' k'.len c') HO3.out hxl (W' := W5) hg5
          rw [HE6.out]
          exact h1
        · rw [HE6.out]
          refine below_setR (.int .i64 h'.kind) (.bool h'.b) (.bool h'.neg) (.string h'.dig) (.int .i64 h'.exp) (.int .u64 (h'.u : Int)) (.int .i64 h'.w) (.string h'.s) (.slice A' k'.len c') ?_ (by have := HS0.out; omega)
          rw [HE5.out]
          refine Below.setCell ?_ (show w.heap.size ≤ w.heap.size from Nat.le_refl _) _
          exact (below_a HI5.out.drew _).grown HG3.out (by rw [World.size_alloc]; have h' : w.heap.size ≤ W.heap.size := Nat.le_of_lt hB0W; show w.heap.size ≤ W.heap.size + 1; omega) (fun r e => by have := (owns_block HO.out e).1; have := HS0.out; omega)
    · go_simp
      refine hK.out _ _ (HX.out.alloc _).nine (fun hHeld => ?_)
      clear hK K
      refine wpAnyH_ready (rs := [0]) (by kernel_rfl) (by simp) ?_
      refine AllReadyH.cons rfl (fun K hK => ?_) AllReadyH.nil
      go_simp
      refine hK.out _ _ (HX.out.alloc _).nine (fun hHeld => ?_)
      clear hK K
      refine wpAnyH_take (i := 2) (v := .int .i64 (pre.length : Int)) rfl (by kernel_rfl) (by kernel_rfl) (by kernel_rfl) (fun _ _ _ h => h) (Or.inl ⟨by rfl, by rintro w ⟨h0, h1, h2, h3, h4, h5, h6, h7, h8⟩; go_simp⟩) hHeld ?_
      refine wpAnyH_ready (rs := [4]) (by kernel_rfl) (by simp) ?_
      refine AllReadyH.cons rfl (fun K hK => ?_) AllReadyH.nil
      refine step_append_run (v := .slice AU pre.length cU) (u := .slice (some ⟨W.drew.heap.size, 0, none⟩) 1 1) rfl rfl (by go_simp) (by go_simp) hrun ?_
      refine hK.out _ _ HC3.out.nine (fun hHeld => ?_)
      clear hK K
      refine wpAnyH_take (i := 5) (v := .pointer (some ⟨g, pre.length * 9, none⟩)) rfl (by kernel_rfl) (by kernel_rfl) (by kernel_rfl) (fun _ _ _ h => h) (Or.inl ⟨by rfl, by rintro w ⟨h0, h1, h2, h3, h4, h5, h6, h7, h8⟩; go_simp; intro h; exfalso; omega⟩) hHeld ?_
      refine wpAnyH_ready (rs := [6, 7]) (by kernel_rfl) (by simp) ?_
      refine AllReadyH.cons rfl (fun K hK => ?_) (AllReadyH.cons rfl (fun K hK => ?_) AllReadyH.nil)
      · have hgw : g < w3.heap.size := hgl
        obtain ⟨⟨e0, e1, e2, e3, e4, e5, e6, e7, e8⟩, ef⟩ := HRow.out w3 rfl
        have f0 := ef (pre.length * 9)
        have f1 := ef (pre.length * 9 + 1)
        have f2 := ef (pre.length * 9 + 2)
        have f3 := ef (pre.length * 9 + 3)
        have f4 := ef (pre.length * 9 + 4)
        have f5 := ef (pre.length * 9 + 5)
        have f6 := ef (pre.length * 9 + 6)
        have f7 := ef (pre.length * 9 + 7)
        have f8 := ef (pre.length * 9 + 8)
        clear ef
        go_simp
        clear e0 e1 e2 e3 e4 e5 e6 e7 e8 f0 f1 f2 f3 f4 f5 f6 f7 f8
        obtain ⟨W5, hW5⟩ : ∃ W5, W5 = setR w3 g (pre.length * 9) (.int .i64 h'.kind) (.bool h'.b) (.bool h'.neg) (.string h'.dig) (.int .i64 h'.exp) (.int .u64 (h'.u : Int)) (.int .i64 h'.w) (.string h'.s) (.slice A' k'.len c') := ⟨_, rfl⟩
        have HC4 := Lib.hid (show Nx W5 C h' (.slice A' k'.len c') from by rw [hW5]; exact (setR_other (.int .i64 h'.kind) (.bool h'.b) (.bool h'.neg) (.string h'.dig) (.int .i64 h'.exp) (.int .u64 (h'.u : Int)) (.int .i64 h'.w) (.string h'.s) (.slice A' k'.len c') hgC).trans HC3.out)
        have HB4 := Lib.hid (show Bx W5 w.heap.size #[.slice AU pre.length cU] 26 from by rw [hW5]; exact (setR_other (.int .i64 h'.kind) (.bool h'.b) (.bool h'.neg) (.string h'.dig) (.int .i64 h'.exp) (.int .u64 (h'.u : Int)) (.int .i64 h'.w) (.string h'.s) (.slice A' k'.len c') (by have := HS0.out; omega)).trans HB3.out)
        have HE5 := Lib.hid hW5
        simp only [setR] at hW5
        rw [← hW5]
        clear hW5
        refine hK.out _ _ HC4.out.nine (fun hHeld => ?_)
        clear hK K
        refine wpAnyH_ready (rs := [7]) (by kernel_rfl) (by simp) ?_
        refine AllReadyH.cons rfl (fun K hK => ?_) AllReadyH.nil
        have e0 := HB4.out.c 0 rfl
        have f0 := HB4.out.f 0
        have l0 := HB4.out.lt
        go_simp
        refine hK.out _ _ (HC4.out.off hCB).nine (fun hHeld => ?_)
        clear hK K
        refine wpAnyH_done (by kernel_rfl) ?_ _
        clear hHeld e0 f0 l0
        gi_wp2
        refine col_end (u := .slice AU pre.length cU) HS0.out HOW.out HRW.out HI6.out ?_ ?_ (HB4.out.set 0 _) ?_ ?_
        · intro k hk1 hk2 hk3
          rw [Below.heap_setCell _ ⟨w.heap.size, 0, none⟩ _ k hk2, HE5.out]
          have hkg : k ≠ g := by
            rintro rfl
            rcases hgg with h | h
            · exact hk3 h
            · rw [World.size_alloc] at h; have h' : k = W.heap.size + 1 := h; omega
          rw [setR_other (.int .i64 h'.kind) (.bool h'.b) (.bool h'.neg) (.string h'.dig) (.int .i64 h'.exp) (.int .u64 (h'.u : Int)) (.int .i64 h'.w) (.string h'.s) (.slice A' k'.len c') hkg]
          exact (HG3.out.block k (by rw [World.size_alloc]; show k < W.heap.size + 1; omega) (fun e => hk3 e.symm)).trans (Below.heap_alloc W.drew _ k hk1)
        · rw [World.size_setCell, HE5.out, size_setR]
          have := HG3.out.size
          rw [World.size_alloc] at this
          have h' : W.heap.size + 1 ≤ w3.heap.size := this
          omega
        · have h1 := owns_setR (.int .i64 h'.kind) (.bool h'.b) (.bool h'.neg) (.string h'.dig) (.int .i64 h'.exp) (.int .u64 (h'.u : Int)) (.int .i64 h'.w) (.string h'.s) (.slice A' k'.len c') HO3.out hxl (W' := w3) rfl
          rw [← HE5.out] at h1
          exact ownsRow_setCell_below h1 (show w.heap.size < W0.heap.size by have := HS0.out; omega) _
        · refine Below.setCell ?_ (show w.heap.size ≤ w.heap.size from Nat.le_refl _) _
          rw [HE5.out]
          refine below_setR (.int .i64 h'.kind) (.bool h'.b) (.bool h'.neg) (.string h'.dig) (.int .i64 h'.exp) (.int .u64 (h'.u : Int)) (.int .i64 h'.w) (.string h'.s) (.slice A' k'.len c') ?_ (by have := HS0.out; omega)
          exact (below_a HI5.out.drew _).grown HG3.out (by rw [World.size_alloc]; have h' : w.heap.size ≤ W.heap.size := Nat.le_of_lt hB0W; show w.heap.size ≤ W.heap.size + 1; omega) (fun r e => by have := (owns_block HO.out e).1; have := HS0.out; omega)
      · have hgw : g < w3.heap.size := hgl
        have e0 := HB3.out.c 0 rfl
        have f0 := HB3.out.f 0
        have l0 := HB3.out.lt
        go_simp
        clear e0 f0 l0
        obtain ⟨W5, hW5⟩ : ∃ W5, W5 = w3.setCell ⟨w.heap.size, 0, none⟩ (.slice (some ⟨g, 0, none⟩) (pre.length + 1) cap) := ⟨_, rfl⟩
        have HC4 := Lib.hid (show Nx W5 C h' (.slice A' k'.len c') from by rw [hW5]; exact HC3.out.off hCB)
        have HB4 := Lib.hid (show Bx W5 w.heap.size #[.slice (some ⟨g, 0, none⟩) (pre.length + 1) cap] 26 from by rw [hW5]; exact HB3.out.set 0 _)
        have hg5 : W5.heap[g]? = w3.heap[g]? := by rw [hW5]; exact Below.heap_setCell _ ⟨w.heap.size, 0, none⟩ _ g (show g ≠ w.heap.size by have := HS0.out; omega)
        have hgw5 : g < W5.heap.size := by rw [hW5, World.size_setCell]; exact hgw
        have HE5 := Lib.hid hW5
        rw [← hW5]
        clear hW5
        refine hK.out _ _ HC4.out.nine (fun hHeld => ?_)
        clear hK K
        refine wpAnyH_ready (rs := [6]) (by kernel_rfl) (by simp) ?_
        refine AllReadyH.cons rfl (fun K hK => ?_) AllReadyH.nil
        obtain ⟨⟨e0, e1, e2, e3, e4, e5, e6, e7, e8⟩, ef⟩ := HRow.out W5 hg5
        have f0 := ef (pre.length * 9)
        have f1 := ef (pre.length * 9 + 1)
        have f2 := ef (pre.length * 9 + 2)
        have f3 := ef (pre.length * 9 + 3)
        have f4 := ef (pre.length * 9 + 4)
        have f5 := ef (pre.length * 9 + 5)
        have f6 := ef (pre.length * 9 + 6)
        have f7 := ef (pre.length * 9 + 7)
        have f8 := ef (pre.length * 9 + 8)
        clear ef
        go_simp
        clear e0 e1 e2 e3 e4 e5 e6 e7 e8 f0 f1 f2 f3 f4 f5 f6 f7 f8
        obtain ⟨W6, hW6⟩ : ∃ W6, W6 = setR W5 g (pre.length * 9) (.int .i64 h'.kind) (.bool h'.b) (.bool h'.neg) (.string h'.dig) (.int .i64 h'.exp) (.int .u64 (h'.u : Int)) (.int .i64 h'.w) (.string h'.s) (.slice A' k'.len c') := ⟨_, rfl⟩
        have HC6 := Lib.hid (show Nx W6 C h' (.slice A' k'.len c') from by rw [hW6]; exact (setR_other (.int .i64 h'.kind) (.bool h'.b) (.bool h'.neg) (.string h'.dig) (.int .i64 h'.exp) (.int .u64 (h'.u : Int)) (.int .i64 h'.w) (.string h'.s) (.slice A' k'.len c') hgC).trans HC4.out)
        have HB6 := Lib.hid (show Bx W6 w.heap.size #[.slice (some ⟨g, 0, none⟩) (pre.length + 1) cap] 26 from by rw [hW6]; exact (setR_other (.int .i64 h'.kind) (.bool h'.b) (.bool h'.neg) (.string h'.dig) (.int .i64 h'.exp) (.int .u64 (h'.u : Int)) (.int .i64 h'.w) (.string h'.s) (.slice A' k'.len c') (by have := HS0.out; omega)).trans HB4.out)
        have HE6 := Lib.hid hW6
        simp only [setR] at hW6
        rw [← hW6]
        clear hW6
        refine hK.out _ _ HC6.out.nine (fun hHeld => ?_)
        clear hK K
        refine wpAnyH_done (by kernel_rfl) ?_ _
        clear hHeld
        gi_wp2
        refine col_end (u := .slice AU pre.length cU) HS0.out HOW.out HRW.out HI6.out ?_ ?_ HB6.out ?_ ?_
        · intro k hk1 hk2 hk3
          rw [HE6.out]
          have hkg : k ≠ g := by
            rintro rfl
            rcases hgg with h | h
            · exact hk3 h
            · rw [World.size_alloc] at h; have h' : k = W.heap.size + 1 := h; omega
          rw [setR_other (.int .i64 h'.kind) (.bool h'.b) (.bool h'.neg) (.string h'.dig) (.int .i64 h'.exp) (.int .u64 (h'.u : Int)) (.int .i64 h'.w) (.string h'.s) (.slice A' k'.len c') hkg, HE5.out, Below.heap_setCell _ ⟨w.heap.size, 0, none⟩ _ k hk2]
          exact (HG3.out.block k (by rw [World.size_alloc]; show k < W.heap.size + 1; omega) (fun e => hk3 e.symm)).trans (Below.heap_alloc W.drew _ k hk1)
        · rw [HE6.out, size_setR, HE5.out, World.size_setCell]
          have := HG3.out.size
          rw [World.size_alloc] at this
          have h' : W.heap.size + 1 ≤ w3.heap.size := this
          omega
        · have h1 := owns_setR (.int .i64 h'.kind) (.bool h'.b) (.bool h'.neg) (.string h'.dig) (.int .i64 h'.exp) (.int .u64 (h'.u : Int)) (.int .i64 h'.w) (.string h'.s) (.slice A' k'.len c') HO3.out hxl (W' := W5) hg5
          rw [HE6.out]
          exact h1
        · rw [HE6.out]
          refine below_setR (.int .i64 h'.kind) (.bool h'.b) (.bool h'.neg) (.string h'.dig) (.int .i64 h'.exp) (.int .u64 (h'.u : Int)) (.int .i64 h'.w) (.string h'.s) (.slice A' k'.len c') ?_ (by have := HS0.out; omega)
          rw [HE5.out]
          refine Below.setCell ?_ (show w.heap.size ≤ w.heap.size from Nat.le_refl _) _
          exact (below_a HI5.out.drew _).grown HG3.out (by rw [World.size_alloc]; have h' : w.heap.size ≤ W.heap.size := Nat.le_of_lt hB0W; show w.heap.size ≤ W.heap.size + 1; omega) (fun r e => by have := (owns_block HO.out e).1; have := HS0.out; omega)
  · rintro D ys W hD hS ⟨⟨u, xs, i1, i2, i3⟩, i5, i6⟩ hDf
    have HDf := Lib.hid hDf
    have HI5 := Lib.hid i5
    have HO := Lib.hid i2
    have HR := Lib.hid i3
    have HY := Lib.hid (ky_fo hS)
    have e0 := i1.c 0 rfl
    clear i1 i2 i3 i5 i6 hDf hS a0 hB0
    gi_wp2
    refine ⟨by simp, .inl ⟨_, _, rfl, run_takeDeferred HDf.out, ?_⟩⟩
    refine ⟨_, results_tmp rfl _ _ _, ?_⟩
    have hg := belowK_b (w := w) (Nat.le_refl _) _ D _ (.deferred none) (by have := HS0.out; omega) HDf.out rfl rfl
    refine ⟨_, rfl, ?_, HI5.out.trans hg⟩
    have hkx : Kx (fun b => b = w.heap.size ∨ W0.heap.size ≤ b) W (W.putObj D (.deferred none)) := Kx.putObj W D _ _ HDf.out rfl
    have ho : (W.putObj D (.deferred none)).ownsRow W0.heap.size 28 9 u (foOf ys).len xs := by
      rw [foOf_len]
      exact owns_kept HO.out (grownBy_putObj' W D _) (fun r e => by cases e; exact ⟨_, HDf.out, rfl⟩)
    have hl : (keysF f).len ≤ f.len := keysF_len f
    have hkd := kd_of_owns (P := An) ho ((HR.out.kx hkx).mono fun _ _ _ => trivial) (fun _ _ _ => trivial) (by rw [HY.out]; omega)
    rw [HY.out] at hkd
    exact hkd
  · rintro D cc pre W hD hS h1
    exact h1.elim
end Go.Proofs.YtppapkpceejnkaaGreatDoor
