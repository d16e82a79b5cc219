/- The writer's iterator through, as its caller ranges over it. -/
import Derived.Test.YtomociaidccfmaaGreatDoorJ4
import Derived.Test.YtomociaidccfmaaGreatDoorMj
import Derived.RangeFuncNested
import Derived.RangeFuncLeaves
namespace Go.Proofs.YtomociaidccfmaaGreatDoor
open Go.RowKit

attribute [local go_sem] Oper.semAt_some

/-- A node of a list, and its place. -/
structure Jt where
  j : Nat
  h : Hd
  v : Value
  k : Fo
abbrev Nj (f : Fo) (w0 : World) := { x : Jt // (∃ r, f.drop x.j = .cons x.h x.k r) ∧ Kd An w0 x.v x.k ∧ x.h.u < 18446744073709551616 }
/-- The mark behind the node at a place. -/
def markB (m : Bool) (n j : Nat) : ByteArray := if j + 1 = n then ⟨#[]⟩ else if m && (j % 2 == 0) then ⟨#[58]⟩ else ⟨#[44]⟩
def encJ {f : Fo} {w0 : World} (m : Bool) (x : Nj f w0) : Array Value := #[.agg (x.1.h.cells x.1.v), .string (markB m f.len x.1.j)]
def marksN (m : Bool) : Nat := if m then 2 else 1
def marksC (m : Bool) : Array Value := if m then #[.string ⟨#[58]⟩, .string ⟨#[44]⟩] else #[.string ⟨#[44]⟩]
/-- What a round keeps. -/
def Kj (w0 : World) (b : Nat) (W W' : World) : Prop := (Below w0.heap.size W W' ∧ W.heap.size ≤ W'.heap.size) ∧ ∀ k cs T fr, W.heap[k]? = some (.cells cs T fr) → T ≠ 5 → k ≠ b → W'.heap[k]? = some (.cells cs T fr)
section
variable {w0 A B C : World} {b : Nat}
theorem Kj.refl : Kj w0 b A A := ⟨⟨Below.refl _ _, Nat.le_refl _⟩, fun _ _ _ _ h _ _ => h⟩
theorem Kj.trans (h : Kj w0 b A B) (k : Kj w0 b B C) : Kj w0 b A C := ⟨⟨h.1.1.trans k.1.1, Nat.le_trans h.1.2 k.1.2⟩, fun i cs T fr hi h1 h2 => k.2 i cs T fr (h.2 i cs T fr hi h1 h2) h1 h2⟩
theorem Kj.of_below (h : Below A.heap.size A B) (hw : w0.heap.size ≤ A.heap.size) : Kj w0 b A B := ⟨⟨h.mono hw, h.size⟩, fun i _ _ _ hi _ _ => (h.block i (Array.getElem?_eq_some_iff.1 hi).1).trans hi⟩
theorem Kj.of_ok (h : Ok w0 b A B) : Kj w0 b A B := ⟨⟨h.1, h.2.1⟩, fun i cs T fr hi h1 h2 => h.obj hi h2 (fun c fz e => by cases e; exact h1 rfl)⟩
theorem Kj.bx {k : Nat} {cs : Array Value} {T : TypeId} (h : Kj w0 b A B) (hk : Bx A k cs T) (h1 : T ≠ 5) (h2 : k ≠ b) : Bx B k cs T := h.2 k cs T _ hk h1 h2
theorem Kj.putObj (W : World) (l : Nat) (o o' : Obj) (hl : w0.heap.size ≤ l) (h : W.heap[l]? = some o) (hc : o.isCells = false) : Kj w0 b W (W.putObj l o') :=
  ⟨⟨(Below.refl _ W).grown (grownBy_putObj' W l o') (by have := (Array.getElem?_eq_some_iff.1 h).1; omega) (fun k e => by cases e; exact hl), by simp⟩, fun k cs T fr hk _ _ => (World.putObj_heap_other (fun e => by subst e; rw [h] at hk; cases hk; cases hc)).trans hk⟩
end
theorem grownBy_drew (W : World) : W.grownBy W.drew none := ⟨rfl, rfl, rfl, Nat.le_refl _, fun _ _ _ => rfl⟩
set_option maxRecDepth 100000 in
theorem jthrough_calls (A : Option Addr) (n c : Nat) (B : Option Addr) (p q : Nat) (w : World) : Calls Tryz.prog 88 #[.slice A n c, .slice B p q] w fun o w' => o = .returned (.func (.func 110) #[] #[.pointer (some ⟨w.heap.size, 0, none⟩), .pointer (some ⟨w.heap.size + 1, 0, none⟩)]) ∧ w' = (w.alloc (.cells #[.slice A n c] 25)).alloc (.cells #[.slice B p q] 121) := by
  go_enter Tryz.func88, Tryz.ntmps88
  go_wp2
  go_ret
  exact ⟨rfl, rfl⟩
set_option maxRecDepth 100000 in
set_option maxHeartbeats 1000000 in
theorem jthrough_stops (w0 wI : World) (b : Nat) (f : Fo) (v : Value) (Bn Bm S : Nat) (m : Bool) (hn : Bx wI Bn #[v] 25) (hm : Bx wI Bm #[.slice (some ⟨S, 0, none⟩) (marksN m) (marksN m)] 121) (hS : Bx wI S (marksC m) 9)
    (hne : Bn ≠ b ∧ Bm ≠ b ∧ S ≠ b) (hk : Kd An w0 v f) (hb0 : Below w0.heap.size w0 wI) (hlen : f.len ≤ 300) (hbl : b < wI.heap.size) (n : Nat) (h1 : 1 ≤ n) :
    SeqStopsK Fence.wide n Tryz.prog 110 #[.pointer (some ⟨Bn, 0, none⟩), .pointer (some ⟨Bm, 0, none⟩)] (encJ (f := f) (w0 := w0) m) (Kj w0 b) (fun xs => xs.map (·.1.j) = List.range f.len) (fun p => ∃ q, q ≤ f.len ∧ p.map (·.1.j) = List.range q) f.len wI := by
  intro l J Jx W hb hJ hJx hY h0
  obtain ⟨A, c, rfl, hc, hl, hL⟩ := hk.form
  have HL := Lib.hid hL
  have HJ := Lib.hid hJ
  have HY := Lib.hid hY
  have H0 := Lib.hid h0
  have HN := Lib.hid (hn.below hb)
  have HM := Lib.hid (hm.below hb)
  have HS := Lib.hid (hS.below hb)
  have HNE := Lib.hid hne
  have HB := Lib.hid (hb0.trans (hb.mono hb0.size))
  have HBL : Hid (b < W.heap.size) := Lib.hid (Nat.lt_of_lt_of_le hbl hb.size)
  have hlen2 : (f.len : Int) ≤ 300 := by omega
  have c1 := HN.out.c 0 rfl
  have c2 := HM.out.c 0 rfl
  clear hL hJ hJx hY h0 hn hm hS hne hb hb0 hk hbl
  refine callsIn_of_wp Tryz.func110 rfl trivial ?_ rfl
  simp only [Tryz.ntmps110, List.size_toArray, List.length_cons, List.length_nil, Nat.reduceAdd, Nat.reduceSub, Array.replicate_succ, Array.replicate_zero, List.push_toArray, List.append_toArray, List.nil_append, List.cons_append]
  gi_wp2
  gi_loopw [9] (fun i wr => ∃ (j : Nat) (xs : List (Nj f w0)), i = .int .i64 (j : Int) ∧ j ≤ f.len ∧ xs.map (·.1.j) = List.range j ∧ J xs wr ∧ Kj w0 b W wr) (fun i _ => f.len - (intOf i).toNat)
  case atStart => exact ⟨0, [], rfl, Nat.zero_le _, rfl, H0.out, Kj.refl⟩
  case round =>
    obtain ⟨j, xs, rfl, hj, hxs, hJs, hkx⟩ := hrel
    have HXs := Lib.hid hxs
    have HJs := Lib.hid hJs
    have HKx := Lib.hid hkx
    have c1 := (hkx.bx HN.out (by decide) HNE.out.1).c 0 rfl
    have c2 := (hkx.bx HM.out (by decide) HNE.out.2.1).c 0 rfl
    clear hxs hJs hkx
    by_cases hgo : j < f.len
    · obtain ⟨B, o, rfl, hB, _, hLi⟩ := HL.out (by omega)
      obtain ⟨h', k', r, hd⟩ := drop_cons hgo
      have hLj := lies_drop j hLi
      rw [hd] at hLj
      obtain ⟨⟨v', hc', hk'⟩, hu', _⟩ := lies_cons.1 hLj
      obtain ⟨x, hx1, hx2, hx3⟩ : ∃ x : Nj f w0, x.1.j = j ∧ x.1.h = h' ∧ x.1.v = v' := ⟨⟨⟨j, h', v', k'⟩, ⟨r, hd⟩, hk', hu'⟩, rfl, rfl, rfl⟩
      have hBw : Below w0.heap.size w0 wr := HB.out.trans HKx.out.1.1
      have hc2' : Cells wr B (o + j * 9) (h'.cells v') := hc'.below hBw
      obtain ⟨A', c', rfl, _, _, _⟩ := hk'.form
      obtain ⟨d0, d1, d2, d3, d4, d5, d6, d7, d8⟩ := hc2'.nine
      have hl : (xs.length : Nat) < f.len := by
        have := congrArg List.length HXs.out
        rw [List.length_map, List.length_range] at this
        omega
      have HXx := Lib.hid hx1
      have HLl := Lib.hid hl
      have HXY : Hid (∀ W1, J xs W1 → YieldAt Fence.wide (n - 1) Tryz.prog l #[.agg (h'.cells (.slice A' k'.len c')), .string (markB m f.len j)] W1 fun e W' => (e = .returned (.bool true) ∧ J (xs ++ [x]) W' ∧ Kj w0 b W1 W') ∨ (e = .returned (.bool false) ∧ Jx (xs ++ [x]) W')) := Lib.hid (fun W1 hW1 => by
        have := HY.out xs x W1 hW1 hl
        rw [encJ, hx1, hx2, hx3] at this
        exact this)
      have HJa : Hid (∀ W1 o, J xs W1 → J xs (W1.alloc o)) := Lib.hid (fun W1 o h => HJ.out xs W1 _ none h (World.grownBy_alloc W1 o none) (fun r e => by cases e))
      have HJd : Hid (∀ W1, J xs W1 → J xs W1.drew) := Lib.hid (fun W1 h => HJ.out xs W1 _ none h (grownBy_drew W1) (fun r e => by cases e))
      clear hLi hLj hc' hk' hd hx1 hx2 hx3 hc2' hBw hl
      obtain ⟨X, hX⟩ : ∃ X : ByteArray, X = if m && (j % 2 == 0) then ⟨#[58]⟩ else ⟨#[44]⟩ := ⟨_, rfl⟩
      obtain ⟨N, hN⟩ : ∃ N, N = marksN m := ⟨_, rfl⟩
      obtain ⟨q, hq⟩ : ∃ q, q = j % N := ⟨_, rfl⟩
      have hN1 : 1 ≤ N := by rw [hN]; cases m <;> decide
      have hqN : q < N := by rw [hq]; exact Nat.mod_lt _ (by omega)
      have hcl : ∀ W', Bx W' S (marksC m) 9 → W'.cell? ⟨S, q, none⟩ = some (.string X) := by
        intro W' hW
        refine hW.c q ?_
        rw [hq, hN, hX]
        cases m with
        | false => rw [show j % marksN false = 0 from Nat.mod_one j]; rfl
        | true =>
          rcases Nat.mod_two_eq_zero_or_one j with h5 | h5
          · rw [show j % marksN true = 0 from h5, h5]; rfl
          · rw [show j % marksN true = 1 from h5, h5]; rfl
      have hrm : ((j : Int).tmod (N : Int)) = (q : Int) := by rw [hq, Int.tmod_eq_emod_of_nonneg (by omega)]; omega
      have hq1 : (q : Int) < (N : Int) := by omega
      have hNz : ¬ (N : Int) = 0 := by omega
      have HMk : Hid (markB m f.len j = if j + 1 = f.len then ⟨#[]⟩ else X) := Lib.hid (by rw [hX]; rfl)
      rw [← hN] at c2
      have hc1 := HKx.out.bx HM.out (by decide) HNE.out.2.1
      rw [← hN] at hc1
      obtain ⟨W1, hW1⟩ : ∃ W1, W1 = wr.alloc (.cells #[.int .i64 h'.kind, .bool h'.b, .bool h'.neg, .string h'.dig, .int .i64 h'.exp, .int .u64 (h'.u : Int), .int .i64 h'.w, .string h'.s, .slice A' k'.len c'] 27) := ⟨_, rfl⟩
      have HX1 : Hid (Nx W1 wr.heap.size h' (.slice A' k'.len c')) := Lib.hid (by rw [hW1]; exact Nx.new wr _ _)
      have e2 : W1.cell? ⟨Bm, 0, none⟩ = some (.slice (some ⟨S, 0, none⟩) N N) := by rw [hW1]; exact (hc1.alloc _).c 0 rfl
      have e1 : W1.cell? ⟨Bn, 0, none⟩ = some (.slice (some ⟨B, o, none⟩) f.len c) := by rw [hW1]; exact ((HKx.out.bx HN.out (by decide) HNE.out.1).alloc _).c 0 rfl
      have eS : W1.cell? ⟨S, q, none⟩ = some (.string X) := by rw [hW1]; exact hcl _ ((HKx.out.bx HS.out (by decide) HNE.out.2.2).alloc _)
      have HJ1 : Hid (J xs W1) := Lib.hid (by rw [hW1]; exact HJa.out _ _ HJs.out)
      have HK1 : Hid (Kj w0 b W W1) := Lib.hid (by rw [hW1]; exact HKx.out.trans (Kj.of_below (below_a (Below.refl _ _) _) (by have := HB.out.size; have := HKx.out.1.2; omega)))
      have HWb : Hid (b ≠ wr.heap.size ∧ wr.heap.size < W1.heap.size) := Lib.hid ⟨by have := HBL.out; have := HKx.out.1.2; omega, by rw [hW1]; simp⟩
      have HW1 := Lib.hid hW1
      clear hX hN hq hcl hc1 hW1
      gi_wp2
      first | rw [← HW1.out] | skip
      gi_region
      obtain ⟨n0, n1, n2, n3, n4, n5, n6, n7, n8⟩ := HX1.out.nine
      obtain ⟨fn, tmps, assign, body, hy, hR⟩ := HXY.out W1.drew (HJd.out _ HJ1.out)
      simp only [Hd.cells] at hy
      have hfin : ∀ W3, Kj w0 b W1.drew W3 → Kj w0 b W W3 := fun W3 h => HK1.out.trans (Kj.trans (Kj.of_below (Below.refl _ _).drew (by have := HB.out.size; have := HK1.out.1.2; omega)) h)
      have HF := Lib.hid hfin
      have hgo2 : (xs ++ [(⟨x.1, x.2⟩ : Nj f w0)]).map (·.1.j) = List.range (j + 1) := by
        rw [List.map_append, HXs.out, List.range_succ]
        show _ ++ [x.1.j] = _
        rw [HXx.out]
      have HG := Lib.hid hgo2
      clear hfin hgo2 e2 eS
      by_cases hlast : j + 1 = f.len
      · have hcmp : ((j : Int) == (f.len : Int) - 1) = true := by simp; omega
        have hmk := HMk.out
        rw [if_pos hlast] at hmk
        rw [hmk] at hy
        have HLs := Lib.hid hlast
        clear hlast hmk
        gi_wp2
        refine hR.mono ?_
        rintro e W3 (⟨rfl, hJ3, hk3⟩ | ⟨rfl, hJx3⟩)
        · have HJ3 := Lib.hid hJ3
          have HK3 := Lib.hid (HF.out _ hk3)
          clear hJ3 hk3
          gi_wp2
          refine ⟨⟨j + 1, xs ++ [x], by go_num, hgo, HG.out, HJ3.out, HK3.out⟩, ?_⟩
          simp [intOf]; omega
        · have HJ3 := Lib.hid hJx3
          clear hJx3
          gi_wp2
          refine bodyPost_ret (results_none rfl _ _ _) rfl ?_
          exact ⟨⟨_, rfl⟩, .inr ⟨xs ++ [x], ⟨j + 1, hgo, HG.out⟩, HJ3.out⟩⟩
      · have hcmp : ((j : Int) == (f.len : Int) - 1) = false := by simp; omega
        have hmk := HMk.out
        rw [if_neg hlast] at hmk
        rw [hmk] at hy
        have HLs := Lib.hid hlast
        clear hlast hmk
        gi_wp2
        refine hR.mono ?_
        rintro e W3 (⟨rfl, hJ3, hk3⟩ | ⟨rfl, hJx3⟩)
        · have HJ3 := Lib.hid hJ3
          have HK3 := Lib.hid (HF.out _ hk3)
          clear hJ3 hk3
          gi_wp2
          refine ⟨⟨j + 1, xs ++ [x], by go_num, hgo, HG.out, HJ3.out, HK3.out⟩, ?_⟩
          simp [intOf]; omega
        · have HJ3 := Lib.hid hJx3
          clear hJx3
          gi_wp2
          refine bodyPost_ret (results_none rfl _ _ _) rfl ?_
          exact ⟨⟨_, rfl⟩, .inr ⟨xs ++ [x], ⟨j + 1, hgo, HG.out⟩, HJ3.out⟩⟩
    · gi_wp2
      go_end0
      exact ⟨⟨_, rfl⟩, .inl ⟨xs, by rw [HXs.out, show j = f.len by omega], HJs.out⟩⟩
end Go.Proofs.YtomociaidccfmaaGreatDoor
