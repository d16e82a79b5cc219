/- A range over an iterator that hands on all that it has; also where the iterator itself ranges over another one, and hands on what that one hands on. The writer's iterator through: all nodes, each ahead of those of its list. What the laws want of plain items (plain mathematics). -/
import Derived.Test.YtppapkpceejnkaaGreatDoorK11
import Derived.RangeFuncNested
import Derived.RangeFuncLeaves
import Derived.Test.YtppapkpceejnkaaGreatDoorKt
import Derived.Test.YtppapkpceejnkaaGreatDoorKs
import Derived.Test.YtppapkpceejnkaaGreatDoorK23
namespace Go.Proofs.YtppapkpceejnkaaGreatDoor
open Go.RowKit

/-- An iterator that hands on all: S is what comes; a round goes on, keeps Kp, and leaves alone what is no cells and was laid since the iterator began. -/
def SeqAll {α : Type} (P : Program) (g : Nat) (lb : Array Value) (encs : α → Array Value) (Kp : World → World → Prop) (S : List α → Prop) (N : Nat) (w : World) : Prop :=
  ∀ (l : Nat) (J : List α → World → Prop) (W : World), Below w.heap.size w W → OwnFrom W.heap.size J →
    (∀ pre x W1, J pre W1 → pre.length < N → YieldAt Fence.wide 5 P l (encs x) W1 fun e W' => e = .returned (.bool true) ∧ J (pre ++ [x]) W' ∧ Kp W1 W' ∧ KeepsFrom W.heap.size W1 W') →
    J [] W → CallsIn Fence.wide 5 P g (#[.func (.yield l) #[] #[]] ++ lb) W fun e W' => (∃ v, e = .returned v) ∧ ∃ xs, S xs ∧ J xs W'
theorem wpIn_rangeAll {α : Type} {P : Program} {g : Operand} {ps : Array Tmp} {assign body : Code} {Q : Exit → Act → World → Prop} {a : Act} {w : World} {n : Nat}
    {gf : Nat} {lb : Array Value} (hg : a.eval g = .func (.func gf) #[] lb) (eg : ∀ args w, (callFunc gf args).run P w = .ok (.enter gf args) w)
    {encs : α → Array Value} {Kp : World → World → Prop} {S : List α → Prop} {N : Nat} {w0 : World} (hseq : SeqAll P gf lb encs Kp S N w0)
    (hKt : ∀ {A B C : World}, Kp A B → Kp B C → Kp A C) (hKb : ∀ (W : World) (l : Nat) (o o' : Obj), w.heap.size ≤ l → W.heap[l]? = some o → o.isCells = false → Kp W (W.putObj l o'))
    (hb0 : Below w0.heap.size w0 w) (hps : ∀ x, (encs x).size = ps.size)
    (I : List α → World → Prop) (hI : OwnFrom w.heap.size I) (h0 : I [] w) (Ax : α → Act → World → Prop) (hAx : ∀ x a', OwnFrom w.heap.size (fun (_ : Unit) W => Ax x a' W))
    (hassign : ∀ (l : Nat) (pre : List α) (x : α) (W : World) (K : Act → World → Prop), I pre W → (∀ a' W', KeepsFrom w.heap.size W W' → Kp W W' → I pre W' → Ax x a' W' → K a' W') →
      assign.wpIn (Fence.wide.inRound l) 5 P (Exit.then K (fun _ _ _ => False)) { tmps := (ps.zip (encs x)).foldl (fun t (p, v) => t.setIfInBounds p v) a.tmps, defers := [] } W)
    (hbody : ∀ (l : Nat) (pre : List α) (x : α) (a' : Act) (W : World), w.heap.size ≤ l → (∃ r, W.heap[l]? = some (.loop r)) → I pre W → Ax x a' W → pre.length < N →
      body.wpIn (Fence.wide.inRound l) 5 P (fun e _ W' => e = .normal ∧ KeepsFrom w.heap.size W W' ∧ Kp W W' ∧ I (pre ++ [x]) W') a' W)
    (hdone : ∀ (D : Nat) (xs : List α) (W : World), w.heap.size ≤ D → S xs → I xs W → W.heap[D]? = some (.deferred (some [])) → Q .normal { a with defers := { target := .collected D, args := #[] } :: a.defers } W) :
    (Code.rangeFunc g ps assign body).wpIn Fence.wide n P Q a w := by
  refine wpIn_rangeFunc fun fn hfn => ?_
  rw [show Fence.wide.round = none from rfl]
  obtain ⟨R, hR⟩ : ∃ R : LoopState → Loop, R = fun st => { state := st, pending := none, fn, tmps := a.tmps, params := ps, assign, body, defers := w.heap.size } := ⟨_, rfl⟩
  have e1 : ({ R .ready with state := .busy } : Loop) = R .busy := by rw [hR]
  have e2 : ({ R .busy with state := if (none : Option Code).isNone then .ready else .done, pending := none } : Loop) = R .ready := by rw [hR]; rfl
  obtain ⟨W1, hW1⟩ : ∃ W1, W1 = (w.alloc (.deferred (some []))).alloc (.loop (R .ready)) := ⟨_, rfl⟩
  have hs1 : W1.heap.size = w.heap.size + 2 := by rw [hW1]; simp
  have hl1 : W1.heap[w.heap.size + 1]? = some (.loop (R .ready)) := by
    have := World.alloc_heap_new (w.alloc (.deferred (some []))) (.loop (R .ready))
    rwa [World.size_alloc, ← hW1] at this
  have hd1 : W1.heap[w.heap.size]? = some (.deferred (some [])) := by
    rw [hW1]
    exact (Below.heap_alloc _ _ _ (by simp)).trans (World.alloc_heap_new w _)
  have hi1 : I [] W1 := by rw [hW1]; exact hI.alloc _ (hI.alloc _ h0)
  have hb1 : Below w0.heap.size w0 W1 := by
    rw [hW1]
    exact hb0.trans ((((Below.refl _ w).alloc (Nat.le_refl _) _).alloc (by simp) _).mono hb0.size)
  refine ⟨w.heap.size + 1, [{ target := .collected w.heap.size, args := #[] }], W1, { target := .fn (.func gf) lb, args := #[.func (.yield (w.heap.size + 1)) #[] #[]] }, W1, gf,
    #[.func (.yield (w.heap.size + 1)) #[] #[]] ++ lb, W1, ?_, ?_, fun _ _ => trivial, ?_, fun h => by simp [Fence.wide] at h, ?_⟩
  · rw [hW1, hR]
    exact run_enterLoop_outer _ _ _ _ _
  · simp only [resolve, hg]
    simp [go_sem]
  · simp [invoke, go_sem, eg]
  have hwide : ∀ {R : Ending → World → Prop}, CallsIn Fence.wide 5 P gf (#[.func (.yield (w.heap.size + 1)) #[] #[]] ++ lb) W1 R → CallsIn Fence.wide (n - 1) P gf (#[.func (.yield (w.heap.size + 1)) #[] #[]] ++ lb) W1 R := fun h => (callsIn_wide (n := n - 1)).2 ((callsIn_wide (n := 5)).1 h)
  refine hwide ((hseq (w.heap.size + 1) (fun pre W => I pre W ∧ W.heap[w.heap.size + 1]? = some (.loop (R .ready)) ∧ W.heap[w.heap.size]? = some (.deferred (some []))) W1 hb1 ?_ ?_ ⟨hi1, hl1, hd1⟩).mono ?_)
  · rintro s A B row ⟨g1, g2, g3⟩ hgr hr
    refine ⟨hI s A B row g1 hgr (fun r e => ⟨by have := (hr r e).1; omega, (hr r e).2⟩), ?_, ?_⟩
    · exact (hgr.block _ (Array.getElem?_eq_some_iff.1 g2).1 (fun e => by have := (hr _ e.symm).1; omega)).trans g2
    · exact (hgr.block _ (Array.getElem?_eq_some_iff.1 g3).1 (fun e => by have := (hr _ e.symm).1; omega)).trans g3
  · rintro pre x W ⟨hi, hl, hd⟩ hN
    have hy := run_yield (P := P) (args := encs x) hl (by rw [hR]; exact hps x)
    rw [hR] at hy
    refine ⟨fn, _, assign, body, hy, roundIn_of_wpIn hfn (hassign _ pre x W _ hi ?_)⟩
    intro a' W2 k2 p2 i2 x2
    have hl2 := k2.same _ _ (Nat.le_succ _) hl rfl
    have hd2 := k2.same _ _ (Nat.le_refl _) hd rfl
    have hlt := (Array.getElem?_eq_some_iff.1 hl2).1
    refine ⟨_, run_beginRound hl2 (by rw [hR]), ?_⟩
    rw [e1]
    have hl3 : (W2.putObj (w.heap.size + 1) (.loop (R .busy))).heap[w.heap.size + 1]? = some (.loop (R .busy)) := World.putObj_heap_same hlt
    have hd3 : (W2.putObj (w.heap.size + 1) (.loop (R .busy))).heap[w.heap.size]? = some (.deferred (some [])) := (World.putObj_heap_other (by omega)).trans hd2
    refine wpIn_mono (hbody _ pre x a' _ (Nat.le_succ _) ⟨_, hl3⟩ (hI.putObj _ i2 (Nat.le_succ _) hl2 rfl) ((hAx x a').putObj (s := ()) _ x2 (Nat.le_succ _) hl2 rfl) hN) ?_
    rintro e a4 W4 ⟨rfl, k4, p4, i4⟩
    have hl4 := k4.same _ _ (Nat.le_succ _) hl3 rfl
    have hd4 := k4.same _ _ (Nat.le_refl _) hd3 rfl
    have hr := run_endRound (P := P) none hl4
    rw [e2] at hr
    refine ⟨_, _, hr, rfl, ⟨hI.putObj _ i4 (Nat.le_succ _) hl4 rfl, World.putObj_heap_same (Array.getElem?_eq_some_iff.1 hl4).1, (World.putObj_heap_other (by omega)).trans hd4⟩, ?_, ?_⟩
    · exact hKt p2 (hKt (hKb _ _ _ _ (Nat.le_succ _) hl2 rfl) (hKt p4 (hKb _ _ _ _ (Nat.le_succ _) hl4 rfl)))
    · refine ⟨?_, fun k o hk ho hc => ?_⟩
      · have := k2.size
        have := k4.size
        simp at *
        omega
      · have h5 := k2.same k o (by omega) ho hc
        have h6 : (W2.putObj (w.heap.size + 1) (.loop (R .busy))).heap[k]? = some o := (World.putObj_heap_other (by omega)).trans h5
        exact (World.putObj_heap_other (by omega)).trans (k4.same k o (by omega) h6 hc)
  · rintro e W2 ⟨⟨v, rfl⟩, xs, hS, hi, hl, hd⟩
    refine ⟨none, _, by have := run_endLoop (P := P) hl (by rw [hR]; simp); rw [hR] at this; exact this, ?_⟩
    exact hdone _ xs _ (Nat.le_refl _) hS (hI.putObj _ hi (Nat.le_succ _) hl rfl) ((World.putObj_heap_other (by omega)).trans hd)
end Go.Proofs.YtppapkpceejnkaaGreatDoor
namespace Go.Proofs.YtppapkpceejnkaaGreatDoor
open Go.RowKit

attribute [local go_sem] Oper.semAt_some
theorem cells_nb {W : World} {B : Nat} {h : Hd} {v : Value} (hx : Nx W B h v) : Cells W B 0 (h.cells v) := fun i u hi => by
  rw [Nat.zero_add]
  exact Bx.c hx i hi

/-- What a round keeps. -/
def Kj (w0 : World) (b : Nat) (W W' : World) : Prop := (Below w0.heap.size W W' ∧ W.heap.size ≤ W'.heap.size) ∧ ∀ k cs T fr, W.heap[k]? = some (.cells cs T fr) → T ≠ 5 → k ≠ b → W'.heap[k]? = some (.cells cs T fr)
section
variable {w0 A B C : World} {b : Nat}
theorem Kj.refl : Kj w0 b A A := ⟨⟨Below.refl _ _, Nat.le_refl _⟩, fun _ _ _ _ h _ _ => h⟩
theorem Kj.trans (h : Kj w0 b A B) (k : Kj w0 b B C) : Kj w0 b A C := ⟨⟨h.1.1.trans k.1.1, Nat.le_trans h.1.2 k.1.2⟩, fun i cs T fr hi h1 h2 => k.2 i cs T fr (h.2 i cs T fr hi h1 h2) h1 h2⟩
theorem Kj.of_below (h : Below A.heap.size A B) (hw : w0.heap.size ≤ A.heap.size) : Kj w0 b A B := ⟨⟨h.mono hw, h.size⟩, fun i _ _ _ hi _ _ => (h.block i (Array.getElem?_eq_some_iff.1 hi).1).trans hi⟩
theorem Kj.of_ok (h : Ok w0 b A B) : Kj w0 b A B := ⟨⟨h.1, h.2.1⟩, fun i cs T fr hi h1 h2 => h.obj hi h2 (fun c fz e => by cases e; exact h1 rfl)⟩
theorem Kj.bx {k : Nat} {cs : Array Value} {T : TypeId} (h : Kj w0 b A B) (hk : Bx A k cs T) (h1 : T ≠ 5) (h2 : k ≠ b) : Bx B k cs T := h.2 k cs T _ hk h1 h2
theorem Kj.putObj (W : World) (l : Nat) (o o' : Obj) (hl : w0.heap.size ≤ l) (h : W.heap[l]? = some o) (hc : o.isCells = false) : Kj w0 b W (W.putObj l o') :=
  ⟨⟨(Below.refl _ W).grown (grownBy_putObj' W l o') (by have := (Array.getElem?_eq_some_iff.1 h).1; omega) (fun k e => by cases e; exact hl), by simp⟩, fun k cs T fr hk _ _ => (World.putObj_heap_other (fun e => by subst e; rw [h] at hk; cases hk; cases hc)).trans hk⟩
theorem Kj.grown {row : Option Nat} (h : Kj w0 b A B) (hw : w0.heap.size ≤ A.heap.size) (hg : B.grownBy C row) (hr : ∀ r, row = some r → w0.heap.size ≤ r ∧ ∃ o : Obj, B.heap[r]? = some o ∧ o.isCells = false) : Kj w0 b A C :=
  ⟨⟨h.1.1.grown hg (Nat.le_trans hw h.1.2) (fun r e => (hr r e).1), Nat.le_trans h.1.2 hg.size⟩, fun k cs T fr hk h1 h2 => by
    have h3 := h.2 k cs T fr hk h1 h2
    refine (hg.block k (Array.getElem?_eq_some_iff.1 h3).1 (fun e => ?_)).trans h3
    obtain ⟨o, ho, hc⟩ := (hr k e.symm).2
    rw [h3] at ho
    cases ho
    cases hc⟩
end
/-- Marks of the ranges that a function has gone through. -/
def marksD (ds : List Nat) : List Deferred := ds.map fun D => { target := .collected D, args := #[] }
theorem leave_marks {fn : Func} {tmps : Array Value} {R : Ending → World → Prop} {n B : Nat} {J : World → Prop} (hJ : ∀ W D, J W → B ≤ D → W.heap[D]? = some (.deferred (some [])) → J (W.putObj D (.deferred none))) :
    ∀ (ds : List Nat) (W : World), ds.Nodup → (∀ D ∈ ds, B ≤ D ∧ W.heap[D]? = some (.deferred (some []))) → J W → (∀ W', J W' → LeavesInM Fence.wide n Tryz.prog fn tmps R [] .returning W') →
      LeavesInM Fence.wide n Tryz.prog fn tmps R (marksD ds) .returning W
  | [], W, _, _, hW, h => h W hW
  | D :: ds, W, hn, hd, hW, h => by
    obtain ⟨h1, h2⟩ := hd D (List.mem_cons_self ..)
    rw [List.nodup_cons] at hn
    exact ⟨by simp, .inl ⟨_, _, rfl, run_takeDeferred h2, leave_marks hJ ds _ hn.2 (fun E hE => ⟨(hd E (List.mem_cons_of_mem _ hE)).1, (World.putObj_heap_other (fun e => hn.1 (by rw [← e]; exact hE))).trans (hd E (List.mem_cons_of_mem _ hE)).2⟩) (hJ W D hW h1 h2) h⟩⟩
set_option maxRecDepth 100000 in
theorem throughC_calls (A : Option Addr) (n c : Nat) (w : World) : Calls Tryz.prog 117 #[.slice A n c] w fun o w' => o = .returned (.func (.func 155) #[] #[.pointer (some ⟨w.heap.size, 0, none⟩)]) ∧ w' = w.alloc (.cells #[.slice A n c] 26) := by
  go_enter Tryz.func117, Tryz.ntmps117
  go_wp2
  go_ret
  exact ⟨rfl, rfl⟩
abbrev noX : Nat → Prop := fun _ => False
abbrev Nc (w0 : World) := Ix noX Gc w0
/-- A list that a range may go through: its nodes lie where no round writes, their lists in w0. -/
def TopK (w0 : World) (b : Nat) (wI : World) (v : Value) (f : Fo) : Prop := ∃ A c, v = .slice A f.len c ∧ f.len ≤ c ∧ f.len < 9223372036854775808 ∧ (f.len ≠ 0 → ∃ B o, A = some ⟨B, o, none⟩ ∧ ∀ (j : Nat) (h' : Hd) (k' r : Fo), f.drop j = .cons h' k' r →
  ∃ v', Kd (fun b => ¬ noX b) w0 v' k' ∧ h'.u < 18446744073709551616 ∧ ∀ V, Kj w0 b wI V → Cells V B (o + j * 9) (h'.cells v'))
theorem topK_kd {w0 : World} {b : Nat} {wI : World} {v : Value} {f : Fo} (hk : Kd (fun b => ¬ noX b) w0 v f) (hb : Below w0.heap.size w0 wI) : TopK w0 b wI v f := by
  obtain ⟨A, c, rfl, hc, hl, hL⟩ := hk.form
  refine ⟨A, c, rfl, hc, hl, fun h0 => ?_⟩
  obtain ⟨B, o, rfl, hB, _, hLi⟩ := hL h0
  refine ⟨B, o, rfl, fun j h' k' r hdr => ?_⟩
  have hLj := lies_drop j hLi
  rw [hdr] at hLj
  obtain ⟨⟨v', hc', hk'⟩, hu', _⟩ := lies_cons.1 hLj
  exact ⟨v', hk', hu', fun V hV => hc'.below (hb.trans hV.1.1)⟩
theorem topK_one {w0 : World} {b : Nat} {wI : World} {v : Value} {h : Hd} {k : Fo} {S : Nat} (hk : Kd (fun b => ¬ noX b) w0 v k) (hu : h.u < 18446744073709551616) (hS : Nx wI S h v) (hSb : S ≠ b) : TopK w0 b wI (.slice (some ⟨S, 0, none⟩) 1 1) (.cons h k .nil) := by
  refine ⟨_, 1, rfl, Nat.le_refl _, by show 0 + 1 < _; decide, fun _ => ⟨S, 0, rfl, fun j h' k' r hdr => ?_⟩⟩
  match j, hdr with
  | 0, hdr =>
    cases hdr
    exact ⟨v, hk, hu, fun V hV => cells_nb (show Nx V S h v from hV.bx hS (by decide) hSb)⟩
  | j + 1, hdr =>
    cases j <;> cases hdr
set_option maxRecDepth 100000 in
set_option maxHeartbeats 4000000 in
theorem throughC_all {w0 : World} {b : Nat} : ∀ (N : Nat) (f : Fo) (d : Nat) (v : Value) (Bn : Nat) (wI : World), f.cnt < N → Bx wI Bn #[v] 26 → Bn ≠ b → b < wI.heap.size → TopK w0 b wI v f → AllG Gc f → d + f.deep < 4611686018427387904 → Below w0.heap.size w0 wI →
    SeqAll Tryz.prog 155 #[.pointer (some ⟨Bn, 0, none⟩)] (encK (X := noX) (G := Gc) (w0 := w0)) (Kj w0 b) (Fl f d) f.cnt wI
  | 0, _, _, _, _, _, h, _, _, _, _, _, _, _ => by omega
  | N + 1, f, d, v, Bn, wI, hN, hn, hnb, hbl, hk, hG, hd, hb0 => by
    have IH := Lib.hid (fun f' d' v' Bn' wI' => throughC_all (w0 := w0) (b := b) N f' d' v' Bn' wI')
    intro l J W hb hJ hY h0
    obtain ⟨A, c, rfl, hc, hl, hL⟩ := hk
    have HL := Lib.hid hL
    have HKI : Hid (Kj w0 b wI W) := Lib.hid (Kj.of_below hb hb0.size)
    have HG := Lib.hid hG
    have HJ := Lib.hid hJ
    have HY := Lib.hid hY
    have H0 := Lib.hid h0
    have HN := Lib.hid (hn.below hb)
    have HB := Lib.hid (hb0.trans (hb.mono hb0.size))
    have HBL : Hid (b < W.heap.size) := Lib.hid (Nat.lt_of_lt_of_le hbl hb.size)
    have c1 := HN.out.c 0 rfl
    have HY1 := Lib.hid (Bx.new W #[.func (.yield l) #[] #[]] 53)
    obtain ⟨W1, hW1⟩ : ∃ W1, W1 = W.alloc (.cells #[.func (.yield l) #[] #[]] 53) := ⟨_, rfl⟩
    rw [← hW1] at HY1
    have HN1 : Hid (Bx W1 Bn #[.slice A f.len c] 26) := Lib.hid (by rw [hW1]; exact HN.out.alloc _)
    have HJ1 : Hid (J [] W1) := Lib.hid (by rw [hW1]; exact HJ.out.alloc _ H0.out)
    have HK1 : Hid (Kj w0 b W W1) := Lib.hid (by rw [hW1]; exact Kj.of_below (below_a (Below.refl _ _) _) HB.out.size)
    have hs1 : W.heap.size < W1.heap.size := by rw [hW1]; simp
    have e1 : W1.cell? ⟨Bn, 0, none⟩ = some (.slice A f.len c) := HN1.out.c 0 rfl
    clear hL hJ hY h0 hn hb hb0 hbl hG c1
    refine callsIn_of_wp_marks Tryz.func155 rfl trivial ?_ rfl
    simp only [Tryz.ntmps155, List.size_toArray, List.length_cons, List.length_nil, Nat.reduceAdd, Nat.reduceSub, Array.replicate_succ, Array.replicate_zero, List.push_toArray, List.append_toArray, List.nil_append, List.cons_append]
    gi_wp2
    refine scope_in ?_
    gi_wp2
    refine label_in ?_
    rw [← hW1]
    clear hW1
    gi_wp2
    refine wpIn_loop (fun a' W' => ∃ (j : Nat) (xs : List (Nc w0)) (ds : List Nat) (u3 u4 u5 u9 u10 u11 u12 u13 u14 u15 u16 u17 u18 u19 u20 u21 u22 u23 u24 : Value), a' = { tmps := #[.func (.yield l) #[] #[], .pointer (some ⟨Bn, 0, none⟩), .pointer (some ⟨W.heap.size, 0, none⟩), u3, u4, u5, .slice A f.len c, .int .i64 (f.len : Int), .int .i64 (j : Int), u9, u10, u11, u12, u13, u14, u15, u16, u17, u18, u19, u20, u21, u22, u23, u24], defers := marksD ds } ∧ j ≤ f.len ∧ Fl (f.take j) d xs ∧ J xs W' ∧ Kj w0 b W1 W' ∧ ds.Nodup ∧ ∀ D ∈ ds, W.heap.size ≤ D ∧ W'.heap[D]? = some (.deferred (some [])))
      (fun a' _ => f.len - (intOf (a'.tmps.getD 8 undef)).toNat) ?_ ?_
    · exact ⟨0, [], [], undef, undef, undef, undef, undef, undef, undef, undef, undef, undef, undef, undef, undef, undef, undef, undef, undef, undef, undef, rfl, Nat.zero_le _, rfl, HJ1.out, Kj.refl, List.nodup_nil, fun D hD => by cases hD⟩
    rintro _ wr ⟨j, xs, ds, u3, u4, u5, u9, u10, u11, u12, u13, u14, u15, u16, u17, u18, u19, u20, u21, u22, u23, u24, rfl, hj, hxs, hJs, hkx, hnd, hds⟩
    have HXs := Lib.hid hxs
    have HJs := Lib.hid hJs
    have HKx := Lib.hid hkx
    have HNd := Lib.hid hnd
    have HDs := Lib.hid hds
    have HYb : Hid (W.heap.size ≠ b) := Lib.hid (by have := HBL.out; omega)
    clear hxs hJs hkx hnd hds e1 hs1
    by_cases hgo : j < f.len
    · obtain ⟨B, o, rfl, hTop⟩ := HL.out (by omega)
      obtain ⟨h', k', r, hdr⟩ := drop_cons hgo
      obtain ⟨v', hk', hu', hcs⟩ := hTop j h' k' r hdr
      have hgd := allG_drop j HG.out
      rw [hdr] at hgd
      have hdp := drop_deep j f hdr
      have hct := take_cnt j f hdr
      obtain ⟨x, hx1, hx2, hx3, hx4⟩ : ∃ x : Nc w0, x.1.d = d ∧ x.1.h = h' ∧ x.1.v = v' ∧ x.1.k = k' := ⟨⟨⟨d, h', v', k'⟩, hk', hu', (show d < 4611686018427387904 by omega), hgd.1⟩, rfl, rfl, rfl, rfl⟩
      have hBw : Below w0.heap.size w0 wr := HB.out.trans (HK1.out.1.1.trans HKx.out.1.1)
      have hc2' : Cells wr B (o + j * 9) (h'.cells v') := hcs wr (HKI.out.trans (HK1.out.trans HKx.out))
      obtain ⟨A', c', rfl, _, _, _⟩ := hk'.form
      obtain ⟨d0, d1, d2, d3, d4, d5, d6, d7, d8⟩ := hc2'.nine
      have HDr := Lib.hid hdr
      have HK' := Lib.hid hk'
      have HGk := Lib.hid hgd.2.1
      have HXx := Lib.hid (And.intro hx1 (And.intro hx2 (And.intro hx3 hx4)))
      have HNum := Lib.hid (show k'.cnt < N ∧ d + 1 + k'.deep < 4611686018427387904 from by omega)
      have hlen : xs.length < f.cnt := by
        have := fl_len HXs.out
        omega
      have HCt := Lib.hid hct
      have HYx : Hid (∀ V, J xs V → YieldAt Fence.wide 4 Tryz.prog l #[.agg (h'.cells (.slice A' k'.len c'))] V fun e W' => e = .returned (.bool true) ∧ J (xs ++ [x]) W' ∧ Kj w0 b V W' ∧ KeepsFrom W.heap.size V W') := Lib.hid (fun V hV => by
        have := HY.out xs x V hV hlen
        rw [encK, hx2, hx3] at this
        exact yieldAt_any this)
      have HBw := Lib.hid hBw
      clear hlen hTop hcs hk' hdr hgd hdp hct hx1 hx2 hx3 hx4 hc2' hBw hu'
      obtain ⟨W2, hW2⟩ : ∃ W2, W2 = wr.alloc (.cells #[.int .i64 h'.kind, .bool h'.b, .bool h'.neg, .string h'.dig, .int .i64 h'.exp, .int .u64 (h'.u : Int), .int .i64 h'.w, .string h'.s, .slice A' k'.len c'] 28) := ⟨_, rfl⟩
      have HN2 : Hid (Nx W2 wr.heap.size h' (.slice A' k'.len c')) := Lib.hid (by rw [hW2]; exact Nx.new wr _ _)
      have HJ2 : Hid (J xs W2) := Lib.hid (by rw [hW2]; exact HJ.out.alloc _ HJs.out)
      have HK2 : Hid (Kj w0 b W1 W2) := Lib.hid (by rw [hW2]; exact HKx.out.trans (Kj.of_below (below_a (Below.refl _ _) _) HBw.out.size))
      have HD2 : Hid (∀ D ∈ ds, W.heap.size ≤ D ∧ W2.heap[D]? = some (.deferred (some [])) ∧ D < wr.heap.size) := Lib.hid (fun D hD => by
        obtain ⟨g1, g2⟩ := HDs.out D hD
        have g3 := (Array.getElem?_eq_some_iff.1 g2).1
        refine ⟨g1, ?_, g3⟩
        rw [hW2]
        exact (Below.heap_alloc _ _ _ g3).trans g2)
      have y2 : W2.cell? ⟨W.heap.size, 0, none⟩ = some (.func (.yield l) #[] #[]) := (HK2.out.bx HY1.out (by decide) HYb.out).c 0 rfl
      have HWb : Hid (wr.heap.size ≠ b ∧ W2.heap.size = wr.heap.size + 1 ∧ W.heap.size ≤ wr.heap.size) := Lib.hid ⟨by have := HBL.out; have := HK1.out.1.2; have := HKx.out.1.2; omega, by rw [hW2]; simp, by have := HK1.out.1.2; have := HKx.out.1.2; omega⟩
      obtain ⟨n0, n1, n2, n3, n4, n5, n6, n7, n8⟩ := HN2.out.nine
      obtain ⟨fn, tmps, assign, body, hy, hR⟩ := HYx.out W2 HJ2.out
      simp only [Hd.cells] at hy
      have HW2 := Lib.hid hW2
      rw [hW2] at y2 hy hR
      clear hW2 n0 n1 n2 n3 n4 n5 n6 n7 n8
      gi_wp2
      refine hR.mono ?_
      rintro e W3 ⟨rfl, hJ3, hk3, hkf3⟩
      have HJ3 := Lib.hid hJ3
      have HK3 : Hid (Kj w0 b W1 W3) := Lib.hid (HK2.out.trans (by rw [HW2.out]; exact hk3))
      have HN3 : Hid (Nx W3 wr.heap.size h' (.slice A' k'.len c')) := Lib.hid (Kj.bx (b := b) (w0 := w0) (show Kj w0 b W2 W3 by rw [HW2.out]; exact hk3) HN2.out (by decide) HWb.out.1)
      have HD3 : Hid (∀ D ∈ ds, W.heap.size ≤ D ∧ W3.heap[D]? = some (.deferred (some [])) ∧ D < W3.heap.size) := Lib.hid (fun D hD => by
        obtain ⟨g1, g2, g3⟩ := HD2.out D hD
        rw [HW2.out] at g2
        have g4 := hkf3.same D _ g1 g2 rfl
        exact ⟨g1, g4, (Array.getElem?_eq_some_iff.1 g4).1⟩)
      clear hJ3 hk3 hkf3 hy hR y2 d0 d1 d2 d3 d4 d5 d6 d7 d8
      obtain ⟨n0, n1, n2, n3, n4, n5, n6, n7, n8⟩ := HN3.out.nine
      have hl3 := HN3.out.lt
      gi_wp2_with (refine ⟨trivial, ?_⟩; gi_at_call 117; refine (callsIn_wide.2 (throughC_calls _ _ _ _)).mono ?_; rintro o w4 ⟨rfl, rfl⟩)
      have HS3 : Hid (W.heap.size ≤ W3.heap.size ∧ w0.heap.size ≤ W3.heap.size ∧ b < W3.heap.size) := Lib.hid ⟨by have := HK1.out.1.2; have := HK3.out.1.2; omega, by have := HB.out.size; have := HK1.out.1.2; have := HK3.out.1.2; omega, by have := HBL.out; have := HK1.out.1.2; have := HK3.out.1.2; omega⟩
      obtain ⟨W4, hW4⟩ : ∃ W4, W4 = W3.alloc (.cells #[.slice A' k'.len c'] 26) := ⟨_, rfl⟩
      have HB4 : Hid (Bx W4 W3.heap.size #[.slice A' k'.len c'] 26) := Lib.hid (by rw [hW4]; exact Bx.new W3 _ _)
      have HZ4 : Hid (W4.heap.size = W3.heap.size + 1) := Lib.hid (by rw [hW4]; simp)
      have HJ4 : Hid (J (xs ++ [x]) W4) := Lib.hid (by rw [hW4]; exact HJ.out.alloc _ HJ3.out)
      have HK4 : Hid (Kj w0 b W1 W4) := Lib.hid (by rw [hW4]; exact HK3.out.trans (Kj.of_below (below_a (Below.refl _ _) _) HS3.out.2.1))
      have HD4 : Hid (∀ D ∈ ds, W.heap.size ≤ D ∧ W4.heap[D]? = some (.deferred (some [])) ∧ D < W4.heap.size) := Lib.hid (fun D hD => by
        obtain ⟨g1, g2, g3⟩ := HD3.out D hD
        refine ⟨g1, ?_, by have := HZ4.out; omega⟩
        rw [hW4]
        exact (Below.heap_alloc _ _ _ g3).trans g2)
      have HB04 : Hid (Below w0.heap.size w0 W4) := Lib.hid (HB.out.trans (HK1.out.1.1.trans HK4.out.1.1))
      rw [← hW4]
      clear hW4 n0 n1 n2 n3 n4 n5 n6 n7 n8 hl3
      have hIH := IH.out k' (d + 1) (.slice A' k'.len c') W3.heap.size W4 HNum.out.1 HB4.out (by have := HS3.out; omega) (by have := HS3.out; have := HZ4.out; omega) (topK_kd HK'.out HB04.out) HGk.out HNum.out.2 HB04.out
      have hOJ : OwnFrom W4.heap.size (fun (pre : List (Nc w0)) V => (J (xs ++ [x] ++ pre) V ∧ W4.heap.size ≤ V.heap.size) ∧ Kj w0 b W1 V ∧ ∀ D ∈ ds, V.heap[D]? = some (.deferred (some []))) := by
        rintro pre X Y row ⟨⟨g1, g5⟩, g2, g3⟩ hg hr
        have hz := HZ4.out
        have hs := HS3.out
        refine ⟨⟨HJ.out _ X Y row g1 hg (fun r e => ⟨by have := (hr r e).1; omega, (hr r e).2⟩), Nat.le_trans g5 hg.size⟩, g2.grown (by have := HB.out.size; have := HK1.out.1.2; omega) hg (fun r e => ⟨by have := (hr r e).1; omega, (hr r e).2⟩), fun D hD => ?_⟩
        have g4 := (HD4.out D hD).2.2
        exact (hg.block D (Array.getElem?_eq_some_iff.1 (g3 D hD)).1 (fun e => by have := (hr D e.symm).1; omega)).trans (g3 D hD)
      refine wpIn_rangeAll rfl (enters_of Tryz.func155 (by kernel_rfl) rfl) hIH Kj.trans (fun V l o o' hl h hc => Kj.putObj V l o o' (by have := HS3.out; have := HZ4.out; omega) h hc) (Below.refl _ _) (fun _ => rfl)
        (fun pre V => (J (xs ++ [x] ++ pre) V ∧ W4.heap.size ≤ V.heap.size) ∧ Kj w0 b W1 V ∧ ∀ D ∈ ds, V.heap[D]? = some (.deferred (some []))) hOJ
        ⟨⟨by rw [List.append_nil]; exact HJ4.out, Nat.le_refl _⟩, HK4.out, fun D hD => (HD4.out D hD).2.1⟩
        (fun y a' V => ∃ C, W4.heap.size ≤ C ∧ Nx V C y.1.h y.1.v ∧ a' = { tmps := #[.func (.yield l) #[] #[], .pointer (some ⟨Bn, 0, none⟩), .pointer (some ⟨W.heap.size, 0, none⟩), u3, .pointer (some ⟨wr.heap.size, 0, none⟩), .pointer (some ⟨C, 0, none⟩), .slice (some ⟨B, o, none⟩) f.len c, .int .i64 (f.len : Int), .int .i64 (j : Int), .bool true, .pointer (some ⟨B, o + j * 9, none⟩), .agg #[.int .i64 h'.kind, .bool h'.b, .bool h'.neg, .string h'.dig, .int .i64 h'.exp, .int .u64 (h'.u : Int), .int .i64 h'.w, .string h'.s, .slice A' k'.len c'], .func (.yield l) #[] #[], .agg #[.int .i64 h'.kind, .bool h'.b, .bool h'.neg, .string h'.dig, .int .i64 h'.exp, .int .u64 (h'.u : Int), .int .i64 h'.w, .string h'.s, .slice A' k'.len c'], .bool true, .bool false, .pointer (some ⟨wr.heap.size, 8, none⟩), .slice A' k'.len c', .func (.func 155) #[] #[.pointer (some ⟨W3.heap.size, 0, none⟩)], .agg #[.int .i64 y.1.h.kind, .bool y.1.h.b, .bool y.1.h.neg, .string y.1.h.dig, .int .i64 y.1.h.exp, .int .u64 (y.1.h.u : Int), .int .i64 y.1.h.w, .string y.1.h.s, y.1.v], u20, u21, u22, u23, u24], defers := [] })
        (fun y a' _ _ _ _ hs hg hr => by
          obtain ⟨C, h1, h2, h3⟩ := hs
          exact ⟨C, h1, bx_kept h2 hg (fun r e => (hr r e).2), h3⟩)
        ?_ ?_ ?_
      · intro l' pre y V K hI hK
        have HI := Lib.hid hI
        have HKK := Lib.hid hK
        clear hI hK
        obtain ⟨⟨dy, hy, vy, ky⟩, hky, huy, hdy, hgy⟩ := y
        obtain ⟨Ay, cy, hv, _, _, _⟩ := hky.form
        dsimp only at hv
        subst hv
        simp only [encK, Hd.cells] at HKK ⊢
        gi_wp2
        obtain ⟨⟨i1, i4⟩, i2, i3⟩ := HI.out
        exact HKK.out _ _ ((KeepsOthers.alloc _ _).from _) (Kj.of_below (below_a (Below.refl _ _) _) (by have := HS3.out; have := HZ4.out; omega)) ⟨⟨HJ.out.alloc _ i1, by rw [World.size_alloc]; omega⟩, i2.trans (Kj.of_below (below_a (Below.refl _ _) _) (by have := HS3.out; have := HZ4.out; omega)), fun D hD => (Below.heap_alloc _ _ _ (Array.getElem?_eq_some_iff.1 (i3 D hD)).1).trans (i3 D hD)⟩ ⟨V.heap.size, i4, Nx.new V _ _, rfl⟩
      · rintro l' pre y a' V hl' hlo ⟨⟨i1, i4⟩, i2, i3⟩ ⟨C, hC, hx, rfl⟩ hpl
        obtain ⟨⟨dy, hy', vy, ky⟩, hky, huy, hdy, hgy⟩ := y
        obtain ⟨Ay, cy, hv, _, _, _⟩ := hky.form
        dsimp only at hv
        subst hv
        dsimp only at hx ⊢
        have hyl := yieldAt_any (m' := 4) (HY.out (xs ++ [x] ++ pre) ⟨⟨dy, hy', .slice Ay ky.len cy, ky⟩, hky, huy, hdy, hgy⟩ V i1 (by
          have h1 := fl_len HXs.out
          have h2 := HCt.out
          simp only [List.length_append, List.length_cons, List.length_nil]
          omega))
        dsimp only [encK] at hyl
        simp only [Hd.cells] at hyl
        obtain ⟨fn2, tmps2, assign2, body2, hy2, hR2⟩ := hyl
        have y3 : V.cell? ⟨W.heap.size, 0, none⟩ = some (.func (.yield l) #[] #[]) := (i2.bx HY1.out (by decide) HYb.out).c 0 rfl
        obtain ⟨c0, c1, c2, c3, c4, c5, c6, c7, c8⟩ := hx.nine
        have HI2 := Lib.hid i2
        have HI3 := Lib.hid i3
        clear i1 i2 i3 hlo
        gi_wp2
        refine hR2.mono ?_
        rintro e V3 ⟨rfl, hJv, hkv, hfv⟩
        have HJv := Lib.hid hJv
        have HKv := Lib.hid hkv
        have HFv := Lib.hid hfv
        clear hJv hkv hfv
        gi_wp2
        have hz := HZ4.out
        have hs := HS3.out
        exact ⟨⟨HFv.out.size, fun k o hk ho hc => HFv.out.same k o (by omega) ho hc⟩, HKv.out, ⟨by have h9 := HJv.out; simpa using h9, Nat.le_trans i4 HFv.out.size⟩, HI2.out.trans HKv.out, fun D hD => HFv.out.same D _ (HD4.out D hD).1 (HI3.out D hD) rfl⟩
      · rintro D ys V hD hS ⟨⟨i1, i4⟩, i2, i3⟩ hdf
        have hz := HZ4.out
        have hs := HS3.out
        have hfl : Fl (f.take (j + 1)) d (xs ++ [x] ++ ys) := by
          rw [take_app j f HDr.out, List.append_assoc]
          exact fl_app HXs.out ⟨x, ys, [], HXx.out.1, HXx.out.2.1, HXx.out.2.2.2, by simp, hS, rfl⟩
        have hnd : (D :: ds).Nodup := List.nodup_cons.2 ⟨fun h => by have := (HD4.out D h).2.2; omega, HNd.out⟩
        have hdd : ∀ E ∈ D :: ds, W.heap.size ≤ E ∧ V.heap[E]? = some (.deferred (some [])) := fun E hE => by
          rcases List.mem_cons.1 hE with rfl | hE
          · exact ⟨by omega, hdf⟩
          · exact ⟨(HD4.out E hE).1, i3 E hE⟩
        have HFl := Lib.hid hfl
        have HNn := Lib.hid hnd
        have HDd := Lib.hid hdd
        have HI1 := Lib.hid i1
        have HI2 := Lib.hid i2
        clear hfl hnd hdd i1 i2 i3 i4 hz hs hdf hS
        gi_wp2
        refine ⟨⟨j + 1, xs ++ [x] ++ ys, D :: ds, _, _, _, _, _, _, _, _, _, _, _, _, _, _, _, _, _, _, _, rfl, hgo, HFl.out, HI1.out, HI2.out, HNn.out, HDd.out⟩, ?_⟩
        simp [intOf]
        omega
    · obtain rfl : j = f.len := by omega
      gi_wp2
      refine leave_marks (B := W.heap.size) (J := fun V => J xs V) (fun V D hV hB hD => HJ.out.putObj _ hV hB hD rfl) ds wr HNd.out HDs.out HJs.out (fun V hV => ?_)
      refine ⟨_, results_none rfl _ _ _, ⟨_, rfl⟩, xs, ?_, hV⟩
      have := HXs.out
      rwa [take_all] at this
end Go.Proofs.YtppapkpceejnkaaGreatDoor
namespace Go.Proofs.YtppapkpceejnkaaGreatDoor
open Go.RowKit

theorem ownB_le {h : Hd} {k : Fo} (hg : Gc h k) (n : Nat) : (ownB h n).length ≤ 409 := by
  obtain ⟨⟨h1, h10⟩, ho, hu, hl, hi⟩ := hg
  have hh : ∀ m a, (headL m a).length ≤ 9 := fun m a => by rw [headL_len]; have := hext_le a; omega
  unfold ownB
  split
  · have := hh 7 22; omega
  split
  · have := hh 7 (if h.b then 21 else 20); omega
  split
  · split
    · have := hh 1 (tK (toI h.neg h.dig.data.toList h.exp) - 1); omega
    · have := hh 0 (tK (toI h.neg h.dig.data.toList h.exp)); omega
  split
  · rename_i e
    have hw := (is_4 e ho).2
    rw [List.length_cons, bigL_len]
    unfold widO at hw
    repeat' split at hw
    all_goals first
      | (rename_i h5 _; rw [h5]; decide)
      | (rename_i h5; rw [h5]; decide)
      | (cases hw; done)
  split
  · rename_i e
    have hs := (is_5 e ho).2
    have h5 := hh 3 h.s.size
    have hsl : h.s.data.toList.length = h.s.size := Array.length_toList
    rw [List.length_append]
    omega
  split
  · rename_i e
    have hs := (is_6 e ho).2
    have h5 := hh 2 h.s.size
    have hsl : h.s.data.toList.length = h.s.size := Array.length_toList
    rw [List.length_append]
    omega
  split
  · have := hh 4 n; omega
  split
  · have := hh 5 (n / 2); omega
  split
  · have := hh 6 h.u; omega
  · have := hh 7 h.u; omega
theorem plB_le : ∀ (f : Fo), AllG Gc f → (plB f).length ≤ 409 * f.cnt
  | .nil, _ => Nat.zero_le _
  | .cons h k r, ⟨g1, g2, g3⟩ => by
    have h1 := ownB_le g1 k.len
    have h2 := plB_le k g2
    have h3 := plB_le r g3
    rw [plB, List.length_append, List.length_append, Fo.cnt]
    omega
theorem itB_le {h : Hd} {k : Fo} (e : chk 2 h k = 0) (hu : AllG Gu (.cons h k .nil)) : (itB h k).length ≤ 122700 := by
  obtain ⟨h1, h2, _⟩ := chk_gc e hu
  have h3 := plB_le _ h1
  simp only [Fo.cnt] at h3
  rw [itB]
  omega
end Go.Proofs.YtppapkpceejnkaaGreatDoor
