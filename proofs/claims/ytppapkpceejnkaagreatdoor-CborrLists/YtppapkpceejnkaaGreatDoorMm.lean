/- The program's own: rightTree. The program's own: fittingTree. -/
import Derived.Test.YtppapkpceejnkaaGreatDoorMj
import Derived.Test.YtppapkpceejnkaaGreatDoorMl
import Derived.Test.YtppapkpceejnkaaGreatDoorMa
import Derived.Test.YtppapkpceejnkaaGreatDoorMk

namespace Go.Proofs.YtppapkpceejnkaaGreatDoor
open Go.RowKit Go.Shelf

attribute [local go_sem] Oper.semAt_some

/-- What the methods are asked for: they answer ok, wherever the tables lie. -/
def Meth (T : World → Prop) (ok : Hd → Fo → Bool) : Prop := ∀ (h : Hd) (k : Fo) (v : Value) (W : World) (f : Nat), T W → Kd An W v k → h.u < 18446744073709551616 → Gl h k → kindF h.kind = .func (.func f) #[] #[] → Calls Tryz.prog f #[.agg (h.cells v)] W (BolP (ok h k) W)
def okAll (ok : Hd → Fo → Bool) : Fo → Bool
  | .nil => true
  | .cons h k r => (decide (1 ≤ h.kind ∧ h.kind ≤ 11) && ok h k) && okAll ok k && okAll ok r
def rightR (ok : Hd → Fo → Bool) (h : Hd) (k : Fo) : Bool := decide (1 + k.cnt ≤ 300 ∧ k.deep + 1 ≤ 16) && okAll ok (.cons h k .nil)
def itOk {X : Nat → Prop} {G : Hd → Fo → Prop} {w0 : World} (ok : Hd → Fo → Bool) (x : Ix X G w0) : Bool := decide (1 ≤ x.1.h.kind ∧ x.1.h.kind ≤ 11) && ok x.1.h x.1.k
def allOk {X : Nat → Prop} {G : Hd → Fo → Prop} {w0 : World} (ok : Hd → Fo → Bool) : List (Ix X G w0) → Bool
  | [] => true
  | x :: xs => itOk ok x && allOk ok xs
theorem allOk_app {X : Nat → Prop} {G : Hd → Fo → Prop} {w0 : World} (ok : Hd → Fo → Bool) : ∀ (xs ys : List (Ix X G w0)), allOk ok (xs ++ ys) = (allOk ok xs && allOk ok ys)
  | [], _ => by simp [allOk]
  | x :: xs, ys => by simp only [List.cons_append, allOk]; rw [allOk_app ok xs ys, Bool.and_assoc]
theorem fl_ok {X : Nat → Prop} {G : Hd → Fo → Prop} {w0 : World} (ok : Hd → Fo → Bool) : ∀ {f : Fo} {d : Nat} {xs : List (Ix X G w0)}, Fl f d xs → okAll ok f = allOk ok xs
  | .nil, _, _, h => by cases h; rfl
  | .cons _ _ _, d, _, ⟨x, ys, zs, h1, h2, h3, h4, h5, h6⟩ => by
    rw [h4, allOk, allOk_app, ← fl_ok ok h5, ← fl_ok ok h6, itOk, okAll, h2, h3, Bool.and_assoc]
theorem ownFrom_block {β : Type} {B b : Nat} {ob : Obj} (hb : b < B) : OwnFrom B (fun (_ : β) W => W.heap[b]? = some ob) := fun _ W W' row hs hg hr =>
  (hg.block b (Array.getElem?_eq_some_iff.1 hs).1 (fun e => by have := (hr b e.symm).1; omega)).trans hs
theorem ownFrom_kx {β : Type} {B : Nat} (X : Nat → Prop) (W0 : World) : OwnFrom B (fun (_ : β) W => Kx X W0 W) := fun _ W W' row hs hg hr =>
  ⟨Nat.le_trans hs.1 hg.size, fun k cs T fr hk hx => by
    have h1 := hs.2 k cs T fr hk hx
    exact (hg.block k (Array.getElem?_eq_some_iff.1 h1).1 (fun e => by obtain ⟨_, o, ho, hc⟩ := hr k e.symm; rw [h1] at ho; cases ho; cases hc)).trans h1⟩
theorem keepsO_bel {W W' : World} (h : Below W.heap.size W W') : KeepsOthers W W' := ⟨h.size, fun k _ hk _ => (h.block k (Array.getElem?_eq_some_iff.1 hk).1).trans hk⟩
/-- What rightTree answers. -/
def rtV (b : Bool) (aT : Addr) : Value := if b then .nilIface else erV aT
set_option maxRecDepth 100000 in
set_option maxHeartbeats 1000000 in
theorem rightTree_calls (T : World → Prop) (hTb : ∀ (w w' : World), T w → Below w.heap.size w w' → T w') (ok : Hd → Fo → Bool) (hM : Meth T ok) (k : Fo) (h : Hd) (v : Value) (w : World) (aT aF : Addr) (hT : T w) (hE : Te w aT aF) (hk : Kd An w v k) (hu : h.u < 18446744073709551616) (hd : k.deep < 1000) (hS : AllG Gl (.cons h k .nil)) :
    Calls Tryz.prog 32 #[.agg (h.cells v)] w fun o w' => o = .returned (rtV (rightR ok h k) aT) ∧ Below w.heap.size w w' := by
  obtain ⟨A, c, rfl, _, _, _⟩ := hk.form
  have HK := Lib.hid hk
  have HT := Lib.hid hT
  have HE := Lib.hid hE
  have HM := Lib.hid hM
  have HTb := Lib.hid hTb
  have HW := Lib.hid (within_tree_calls k h (.slice A k.len c))
  clear hk hT hE hM hTb
  simp only [Hd.cells] at HW ⊢
  refine (callsIn_wide (n := 5)).1 ?_
  refine callsIn_of_wp_marks Tryz.func32 rfl trivial ?_ rfl
  simp only [Tryz.ntmps32, List.size_toArray, List.length_cons, List.length_nil, Nat.reduceAdd, Nat.reduceSub, Array.replicate_succ, Array.replicate_zero, List.push_toArray, List.append_toArray, List.nil_append, List.cons_append]
  gi_wp2
  refine scope_in ?_
  gi_wp2_with fail
  refine ⟨trivial, (callsIn_wide (n := _)).2 ?_⟩
  refine (HW.out _ (HK.out.below (below_a (Below.refl _ _) _)) hu hd).mono ?_
  rintro o w1 ⟨rfl, hb1⟩
  have HX1 := Lib.hid ((Nx.new w h (.slice A k.len c)).below hb1)
  have HB1 := Lib.hid (below_nx (below_a (Below.refl _ _) _) hb1)
  clear hb1 HW
  by_cases hlim : 1 + k.cnt ≤ 300 ∧ k.deep + 1 ≤ 16
  · rw [decide_eq_true hlim]
    have HLim := Lib.hid hlim
    clear hlim
    obtain ⟨q0, q1, q2, q3, q4, q5, q6, q7, q8⟩ := HX1.out.nine
    gi_wp2_with fail
    refine ⟨trivial, (callsIn_wide (n := _)).2 ?_⟩
    refine (rightKinds_calls w1).mono ?_
    rintro o w2 ⟨rfl, hw2⟩
    have HX2 : Hid (Nx w2 w.heap.size h (.slice A k.len c)) := Lib.hid (by rw [hw2]; exact HX1.out.alloc _)
    have HB2 : Hid (Below w.heap.size w w2) := Lib.hid (by rw [hw2]; exact below_a HB1.out _)
    have HMp : Hid (w2.heap[w1.heap.size]? = some (.map (entsN 11) 11)) := Lib.hid (by rw [hw2]; exact heap_alloc_new w1 _)
    have hs2 : w2.heap.size = w1.heap.size + 1 := by rw [hw2]; simp
    have HS2 := Lib.hid hs2
    have hlt1 := HX1.out.lt
    clear hw2 hs2 q0 q1 q2 q3 q4 q5 q6 q7 q8 HX1 HB1
    obtain ⟨q0, q1, q2, q3, q4, q5, q6, q7, q8⟩ := HX2.out.nine
    have hlt2 := HX2.out.lt
    gi_wp2
    refine label_in ?_
    gi_wp2_with (refine ⟨trivial, ?_⟩; gi_at_call 54; refine (through_in _ _ _ _ _).mono ?_; rintro o w3 ⟨rfl, rfl⟩)
    obtain ⟨W0, hW0⟩ : ∃ W0, W0 = (((w2.alloc (.cells #[.map (some w1.heap.size)] 101)).alloc (.cells #[.nilIface] 57)).alloc (.cells #[.int .i64 h.kind, .bool h.b, .bool h.neg, .string h.dig, .int .i64 h.exp, .int .u64 (h.u : Int), .int .i64 h.w, .string h.s, .slice A k.len c] 28)).alloc (.cells #[.slice (some ⟨w2.heap.size + 1 + 1, 0, none⟩) 1 1] 26) := ⟨_, rfl⟩
    rw [← hW0]
    have a0 : Bx W0 w2.heap.size #[.map (some w1.heap.size)] 101 := by rw [hW0]; exact (((Bx.new w2 _ _).alloc _).alloc _).alloc _
    have a1 : Bx W0 (w2.heap.size + 1) #[.nilIface] 57 := by rw [hW0]; exact ((Bx.new1 w2 _ _ _).alloc _).alloc _
    have a2 : Nx W0 (w2.heap.size + 1 + 1) h (.slice A k.len c) := by rw [hW0]; exact (Bx.new2 w2 _ _ _ _).alloc _
    have a3 : Bx W0 (w2.heap.size + 1 + 1 + 1) #[.slice (some ⟨w2.heap.size + 1 + 1, 0, none⟩) 1 1] 26 := by rw [hW0]; exact Bx.new3 w2 _ _ _ _ _
    have hB0 : Below w.heap.size w W0 := by rw [hW0]; exact below_a (below_a (below_a (below_a HB2.out _) _) _) _
    have hm0 : W0.heap[w1.heap.size]? = some (.map (entsN 11) 11) := by
      have hq : Below w2.heap.size w2 W0 := by rw [hW0]; exact below_a (below_a (below_a (below_a (Below.refl _ _) _) _) _) _
      exact (hq.block _ (by rw [HS2.out]; omega)).trans HMp.out
    have hs0 : W0.heap.size = w2.heap.size + 4 := by rw [hW0]; simp
    have HS0 := Lib.hid hs0
    have hkd := root_kd (X := fun b => b = w2.heap.size + 1) (c := 1) HK.out hB0 a2 (fun b h1 h2 => by omega) (by omega) hu (Nat.le_refl _)
    have hst := through_stops (fun b => b = w2.heap.size + 1) Gl W0 (fun b hb => by omega) (.cons h k .nil) _ (w2.heap.size + 1 + 1 + 1) (a3.c 0 rfl) hkd hS (by simp [Fo.deep]; omega) (5 - 1) (by decide)
    have HST := Lib.hid hst
    clear hW0 hs0 hkd hst
    refine wpIn_rangeFunc_ownH rfl (by omega) (gf := 91) rfl trivial (enters_of Tryz.func91 (by kernel_rfl) rfl) HST.out Kx.trans (fun W l o o' _ h hc _ => Kx.putObj W l o o' h hc) (Below.refl _ _) (fun _ => rfl)
      (fun pre W => ((((allOk ok pre = true) ∧ Bx W (w2.heap.size + 1) #[.nilIface] 57) ∧ Bx W w2.heap.size #[.map (some w1.heap.size)] 101) ∧ W.heap[w1.heap.size]? = some (.map (entsN 11) 11)) ∧ (Below w.heap.size w W ∧ Kx (fun b => b = w2.heap.size + 1) W0 W))
      (fun c pre W => ((c = .exit 0 ∧ allOk ok pre = false) ∧ Bx W (w2.heap.size + 1) #[erV aT] 57) ∧ Below w.heap.size w W)
      (OwnFrom.and (OwnFrom.and (OwnFrom.and (OwnFrom.and (ownFrom_pure _ _) (Own.from (bx_own _ _ _) _)) (Own.from (bx_own _ _ _) _)) (ownFrom_block (by have := HS2.out; have := HS0.out; omega))) (OwnFrom.and (ownFrom_below (Nat.le_refl _) (by have := HS2.out; have := HS0.out; omega)) (ownFrom_kx _ _)))
      (fun _ => OwnFrom.and (OwnFrom.and (ownFrom_pure _ _) (Own.from (bx_own _ _ _) _)) (ownFrom_below (Nat.le_refl _) (by have := HS2.out; have := HS0.out; omega)))
      ⟨⟨⟨⟨rfl, a1⟩, a0⟩, hm0⟩, hB0, Kx.refl _ _⟩
      (fun x a' W => ∃ C, W0.heap.size ≤ C ∧ Nx W C x.1.h x.1.v ∧ a' = { tmps := #[.agg #[.int .i64 h.kind, .bool h.b, .bool h.neg, .string h.dig, .int .i64 h.exp, .int .u64 (h.u : Int), .int .i64 h.w, .string h.s, .slice A k.len c], .pointer (some ⟨w.heap.size, 0, none⟩), .nilIface, .pointer (some ⟨w2.heap.size, 0, none⟩), .pointer (some ⟨w2.heap.size + 1, 0, none⟩), undef, .pointer (some ⟨C, 0, none⟩), undef, undef, .agg #[.int .i64 h.kind, .bool h.b, .bool h.neg, .string h.dig, .int .i64 h.exp, .int .u64 (h.u : Int), .int .i64 h.w, .string h.s, .slice A k.len c], .bool true, .bool false, undef, .map (some w1.heap.size), .agg #[.int .i64 h.kind, .bool h.b, .bool h.neg, .string h.dig, .int .i64 h.exp, .int .u64 (h.u : Int), .int .i64 h.w, .string h.s, .slice A k.len c], .slice (some ⟨w2.heap.size + 1 + 1, 0, none⟩) 1 1, .func (.func 91) #[] #[.pointer (some ⟨w2.heap.size + 1 + 1 + 1, 0, none⟩)], .int .i64 (x.1.d : Int), .agg #[.int .i64 x.1.h.kind, .bool x.1.h.b, .bool x.1.h.neg, .string x.1.h.dig, .int .i64 x.1.h.exp, .int .u64 (x.1.h.u : Int), .int .i64 x.1.h.w, .string x.1.h.s, x.1.v], undef, undef, undef, undef, undef, undef, undef, undef, undef, undef, undef, undef, undef, undef, undef, undef, undef, undef], defers := [] })
      (fun x a' _ _ _ _ hs hg hr => by
        obtain ⟨C, h1, h2, h3⟩ := hs
        exact ⟨C, h1, bx_kept h2 hg (fun r e => (hr r e).2), h3⟩)
      ?_ ?_ ?_ ?_
    · intro l pre x W K hI hK
      have hz : W0.heap.size ≤ W.heap.size := hI.2.2.1
      have HI := Lib.hid hI
      have HKK := Lib.hid hK
      clear hI hK a0 a1 a2 a3 hB0 hm0 q0 q1 q2 q3 q4 q5 q6 q7 q8
      obtain ⟨⟨d', h', v', k'⟩, hkx, hux, hdx⟩ := x
      obtain ⟨A', c', hv', _, _, _⟩ := hkx.form
      dsimp only at hv'
      subst hv'
      simp only [encI, Hd.cells] at HKK ⊢
      gi_wp2
      obtain ⟨⟨⟨⟨i1, i2⟩, i3⟩, i4⟩, i5, i6⟩ := HI.out
      refine HKK.out _ _ ((KeepsOthers.alloc _ _).from _) ((Kx.refl _ _).alloc _) ⟨⟨⟨⟨i1, i2.alloc _⟩, i3.alloc _⟩, ?_⟩, below_a i5 _, i6.alloc _⟩ ⟨W.heap.size, hz, Nx.new W _ _, rfl⟩
      exact (Below.heap_alloc _ _ _ (Array.getElem?_eq_some_iff.1 i4).1).trans i4
    · rintro l pre x a' W hl hlo ⟨⟨⟨⟨i1, i2⟩, i3⟩, i4⟩, i5, i6⟩ ⟨C, hC, hx, rfl⟩ hlen
      obtain ⟨⟨d', h', v', k'⟩, hkx, hux, hdx, hgl⟩ := x
      obtain ⟨A', c', hv', _, _, _⟩ := hkx.form
      dsimp only at hv'
      subst hv'
      dsimp only at hx hkx hux hgl
      have hlk := run_kind h'.kind i4
      have HI1 := Lib.hid i1
      have HI2 := Lib.hid i2
      have HI3 := Lib.hid i3
      have HI4 := Lib.hid i4
      have HI5 := Lib.hid i5
      have HI6 := Lib.hid i6
      have HX := Lib.hid hx
      have HKd := Lib.hid ((Kd.kx hkx i6).mono fun _ _ _ => trivial : Kd An W _ k')
      have m0 := i3.c 0 rfl
      have e0 := i2.c 0 rfl
      have ef := i2.f 0
      have z1 := i2.lt
      have g0 := (HE.out.below i5).t
      obtain ⟨n0, n1, n2, n3, n4, n5, n6, n7, n8⟩ := hx.nine
      clear i1 i2 i3 i4 i5 i6 hx a0 a1 a2 a3 hB0 hm0 q0 q1 q2 q3 q4 q5 q6 q7 q8 hlo
      by_cases hkn : 1 ≤ h'.kind ∧ h'.kind ≤ 11
      · obtain ⟨f, hf, hef⟩ : ∃ f, kindF h'.kind = .func (.func f) #[] #[] ∧ ∀ args w, (callFunc f args).run Tryz.prog w = .ok (.enter f args) w := by
          have : h'.kind = 1 ∨ h'.kind = 2 ∨ h'.kind = 3 ∨ h'.kind = 4 ∨ h'.kind = 5 ∨ h'.kind = 6 ∨ h'.kind = 7 ∨ h'.kind = 8 ∨ h'.kind = 9 ∨ h'.kind = 10 ∨ h'.kind = 11 := by omega
          rcases this with e | e | e | e | e | e | e | e | e | e | e <;> rw [e]
          · exact ⟨80, rfl, enters_of Tryz.func80 (by kernel_rfl) rfl⟩
          · exact ⟨81, rfl, enters_of Tryz.func81 (by kernel_rfl) rfl⟩
          · exact ⟨82, rfl, enters_of Tryz.func82 (by kernel_rfl) rfl⟩
          · exact ⟨83, rfl, enters_of Tryz.func83 (by kernel_rfl) rfl⟩
          · exact ⟨84, rfl, enters_of Tryz.func84 (by kernel_rfl) rfl⟩
          · exact ⟨85, rfl, enters_of Tryz.func85 (by kernel_rfl) rfl⟩
          · exact ⟨86, rfl, enters_of Tryz.func86 (by kernel_rfl) rfl⟩
          · exact ⟨87, rfl, enters_of Tryz.func87 (by kernel_rfl) rfl⟩
          · exact ⟨88, rfl, enters_of Tryz.func88 (by kernel_rfl) rfl⟩
          · exact ⟨89, rfl, enters_of Tryz.func89 (by kernel_rfl) rfl⟩
          · exact ⟨90, rfl, enters_of Tryz.func90 (by kernel_rfl) rfl⟩
        have HMe := Lib.hid (HM.out h' k' (.slice A' k'.len c') W f (HTb.out _ _ HT.out HI5.out) HKd.out hux hgl hf)
        rw [hf, decide_eq_true hkn] at hlk
        have HKn := Lib.hid hkn
        clear hkn hf
        obtain ⟨Q, hQ⟩ : ∃ Q, Q = ok h' k' := ⟨_, rfl⟩
        rw [← hQ] at HMe
        have HQ := Lib.hid hQ
        clear hQ
        simp only [Hd.cells] at HMe
        gi_wp2_with fail
        refine ⟨trivial, CallsIn.inRound l ((callsIn_wide (n := 2)).2 ?_)⟩
        refine HMe.out.mono ?_
        rintro o W3 ⟨rfl, hb3⟩
        have J2 := Lib.hid (HI2.out.below hb3)
        have J3 := Lib.hid (HI3.out.below hb3)
        have J4 := Lib.hid ((hb3.block _ (Array.getElem?_eq_some_iff.1 HI4.out).1).trans HI4.out)
        have J5 := Lib.hid (below_nx HI5.out hb3)
        have J6 := Lib.hid (HI6.out.trans (Kx.below hb3))
        have JK := Lib.hid (keepsO_bel hb3)
        have JX := Lib.hid (Kx.below (X := fun b => b = w2.heap.size + 1) hb3)
        clear hb3 HMe g0 e0 ef z1
        have g0 := (HE.out.below J5.out).t
        have e0 := J2.out.c 0 rfl
        have ef := J2.out.f 0
        have z1 := J2.out.lt
        cases Q with
        | true =>
          gi_wp2
          refine ⟨JK.out.from _, JX.out, ⟨⟨⟨?_, J2.out⟩, J3.out⟩, J4.out⟩, J5.out, J6.out⟩
          rw [allOk_app, HI1.out, Bool.true_and, allOk, allOk, Bool.and_true, itOk, decide_eq_true HKn.out, ← HQ.out]
          rfl
        | false =>
          gi_wp2
          refine ⟨(JK.out.trans (KeepsOthers.setCell _ _ _)).from _, ⟨⟨rfl, ?_⟩, J2.out.set 0 _⟩, J5.out.setCell (p := ⟨w2.heap.size + 1, 0, none⟩) (by show w.heap.size ≤ w2.heap.size + 1; omega) _⟩
          rw [allOk_app, allOk, itOk, ← HQ.out, Bool.and_false, Bool.false_and, Bool.and_false]
      · have hz : kindF h'.kind = .nilFunc := by
          simp only [kindF]
          rw [if_neg (by omega)]
          rw [if_neg (by omega)]
          rw [if_neg (by omega)]
          rw [if_neg (by omega)]
          rw [if_neg (by omega)]
          rw [if_neg (by omega)]
          rw [if_neg (by omega)]
          rw [if_neg (by omega)]
          rw [if_neg (by omega)]
          rw [if_neg (by omega)]
          rw [if_neg (by omega)]
        rw [hz, decide_eq_false hkn] at hlk
        have HKn := Lib.hid hkn
        clear hkn hz
        gi_wp2
        refine ⟨fun f hf => (by cases hf), ?_⟩
        gi_wp2
        refine ⟨(KeepsOthers.setCell _ _ _).from _, ⟨⟨rfl, ?_⟩, HI2.out.set 0 _⟩, HI5.out.setCell (p := ⟨w2.heap.size + 1, 0, none⟩) (by show w.heap.size ≤ w2.heap.size + 1; omega) _⟩
        rw [allOk_app, allOk, itOk, decide_eq_false HKn.out, Bool.false_and, Bool.false_and, Bool.and_false]
    · rintro D ys W hD hS ⟨⟨⟨⟨i1, i2⟩, i3⟩, i4⟩, i5, i6⟩ hDf
      have HR : Hid (rightR ok h k = true) := Lib.hid (by rw [rightR, decide_eq_true HLim.out, Bool.true_and, fl_ok ok hS]; exact i1)
      have HDf := Lib.hid hDf
      have HI5 := Lib.hid i5
      have e0 := i2.c 0 rfl
      clear i1 i2 i3 i4 i5 i6 hDf hS a0 a1 a2 a3 hB0 hm0 q0 q1 q2 q3 q4 q5 q6 q7 q8
      gi_wp2
      refine ⟨by simp, .inl ⟨_, _, rfl, run_takeDeferred HDf.out, ?_⟩⟩
      refine ⟨_, results_tmp rfl _ _ _, ?_⟩
      exact ⟨by rw [HR.out]; rfl, HI5.out.trans (belowK_b (w := w) (Nat.le_refl _) _ D _ _ (by have := HS0.out; omega) HDf.out rfl rfl)⟩
    · rintro D cc pre W hD ⟨xs, q, hS, hq⟩ ⟨⟨⟨rfl, i1⟩, i2⟩, i5⟩ hDf
      have HR : Hid (rightR ok h k = false) := Lib.hid (by rw [rightR, fl_ok ok hS, hq, allOk_app, i1, Bool.false_and, Bool.and_false])
      have HDf := Lib.hid hDf
      have HI5 := Lib.hid i5
      have e0 := i2.c 0 rfl
      clear i1 i2 i5 hDf hS hq a0 a1 a2 a3 hB0 hm0 q0 q1 q2 q3 q4 q5 q6 q7 q8
      gi_wp2
      refine ⟨by simp, .inl ⟨_, _, rfl, run_takeDeferred HDf.out, ?_⟩⟩
      refine ⟨_, results_tmp rfl _ _ _, ?_⟩
      exact ⟨by rw [HR.out]; rfl, HI5.out.trans (belowK_b (w := w) (Nat.le_refl _) _ D _ _ (by have := HS0.out; omega) HDf.out rfl rfl)⟩
  · rw [decide_eq_false hlim]
    have g0 := (HE.out.below HB1.out).t
    have HLim := Lib.hid hlim
    clear hlim
    gi_wp2_with fail
    show bodyPostM _ _ _ _ _ .ret _ _
    refine ⟨_, results_tmp rfl _ _ _, ?_⟩
    exact ⟨by rw [rightR, decide_eq_false HLim.out, Bool.false_and]; rfl, HB1.out⟩
end Go.Proofs.YtppapkpceejnkaaGreatDoor

namespace Go.Proofs.YtppapkpceejnkaaGreatDoor
open Go.RowKit Go.Shelf

attribute [local go_sem] Oper.semAt_some

def Gs : Hd → Fo → Prop := fun h k => Gk h k ∧ AllG Gk k ∧ Gl h k
theorem allGs : ∀ {f : Fo}, AllG Gk f → AllG Gl f → AllG Gs f
  | .nil, _, _ => trivial
  | .cons _ _ _, ⟨h1, h2, h3⟩, ⟨l1, l2, l3⟩ => ⟨⟨h1, h2, l1⟩, allGs h2 l2, allGs h3 l3⟩
def fitAll (F : Frm) : Fo → Bool
  | .nil => true
  | .cons h k r => fitN F h k && fitAll F k && fitAll F r
def fitIt {X : Nat → Prop} {w0 : World} (F : Frm) : List (Ix X Gs w0) → Bool
  | [] => true
  | x :: xs => fitN F x.1.h x.1.k && fitIt F xs
section
variable {X : Nat → Prop} {w0 : World}
theorem fitIt_app (F : Frm) : ∀ (xs ys : List (Ix X Gs w0)), fitIt F (xs ++ ys) = (fitIt F xs && fitIt F ys)
  | [], _ => by simp [fitIt]
  | x :: xs, ys => by simp only [List.cons_append, fitIt]; rw [fitIt_app F xs ys, Bool.and_assoc]
theorem fl_fit (F : Frm) : ∀ {f : Fo} {d : Nat} {xs : List (Ix X Gs w0)}, Fl f d xs → fitAll F f = fitIt F xs
  | .nil, _, _, h => by cases h; rfl
  | .cons _ _ _, d, _, ⟨x, ys, zs, h1, h2, h3, h4, h5, h6⟩ => by rw [h4, fitIt, fitIt_app, ← fl_fit F h5, ← fl_fit F h6, fitAll, h2, h3, Bool.and_assoc]
end
set_option maxRecDepth 100000 in
set_option maxHeartbeats 1000000 in
theorem fittingTree_calls (n : Int) (k : Fo) (h : Hd) (v : Value) (w : World) (aT aF : Addr) (hT : Tt w) (hE : Te w aT aF) (hk : Kd An w v k) (hu : h.u < 18446744073709551616) (hd : k.deep < 1000) (hG : AllG Gk (.cons h k .nil)) (hS : AllG Gl (.cons h k .nil)) :
    Calls Tryz.prog 33 #[.agg (h.cells v), .int .i64 n] w fun o w' => o = .returned (rtV (fitAll (frmOf n) (.cons h k .nil)) aF) ∧ Below w.heap.size w w' := by
  obtain ⟨A, c, rfl, _, _, _⟩ := hk.form
  have HK := Lib.hid hk
  have HT := Lib.hid hT
  have HE := Lib.hid hE
  have HG := Lib.hid hG
  obtain ⟨F, hF⟩ : ∃ F, F = frmOf n := ⟨_, rfl⟩
  have HGF := Lib.hid (show GoodF F by rw [hF]; exact good_frm n)
  have HFo : Hid (∀ W, Calls Tryz.prog 55 #[.int .i64 n] W fun o w' => o = .returned (.agg F.cells) ∧ Below W.heap.size W w') := Lib.hid (fun W => by rw [hF]; exact formOf_t_calls n W)
  rw [← hF]
  clear hk hT hE hG hF
  simp only [Hd.cells]
  refine (callsIn_wide (n := 5)).1 ?_
  refine callsIn_of_wp_marks Tryz.func33 rfl trivial ?_ rfl
  simp only [Tryz.ntmps33, List.size_toArray, List.length_cons, List.length_nil, Nat.reduceAdd, Nat.reduceSub, Array.replicate_succ, Array.replicate_zero, List.push_toArray, List.append_toArray, List.nil_append, List.cons_append]
  gi_wp2
  refine scope_in ?_
  gi_wp2_with fail
  refine ⟨trivial, (callsIn_wide (n := _)).2 ?_⟩
  refine (HFo.out _).mono ?_
  rintro o w2 ⟨rfl, hb2⟩
  have HX2 := Lib.hid ((Nx.new w h (.slice A k.len c)).below hb2)
  have HB2 := Lib.hid (below_nx (below_a (Below.refl _ _) _) hb2)
  clear hb2 HFo
  obtain ⟨q0, q1, q2, q3, q4, q5, q6, q7, q8⟩ := HX2.out.nine
  have hlt2 := HX2.out.lt
  simp only [Frm.cells]
  gi_wp2
  refine label_in ?_
  gi_wp2_with (refine ⟨trivial, ?_⟩; gi_at_call 54; refine (through_in _ _ _ _ _).mono ?_; rintro o w3 ⟨rfl, rfl⟩)
  obtain ⟨W0, hW0⟩ : ∃ W0, W0 = (((w2.alloc (.cells #[.int .u64 (F.kinds : Int), .int .u64 (F.keys : Int), .bool F.whole, .int .u64 (F.below : Int), .int .i64 F.width, .bool F.narrow] 115)).alloc (.cells #[.nilIface] 57)).alloc (.cells #[.int .i64 h.kind, .bool h.b, .bool h.neg, .string h.dig, .int .i64 h.exp, .int .u64 (h.u : Int), .int .i64 h.w, .string h.s, .slice A k.len c] 28)).alloc (.cells #[.slice (some ⟨w2.heap.size + 1 + 1, 0, none⟩) 1 1] 26) := ⟨_, rfl⟩
  rw [← hW0]
  have a0 : Fx W0 w2.heap.size F := by rw [hW0]; exact (((Bx.new w2 _ _).alloc _).alloc _).alloc _
  have a1 : Bx W0 (w2.heap.size + 1) #[.nilIface] 57 := by rw [hW0]; exact ((Bx.new1 w2 _ _ _).alloc _).alloc _
  have a2 : Nx W0 (w2.heap.size + 1 + 1) h (.slice A k.len c) := by rw [hW0]; exact (Bx.new2 w2 _ _ _ _).alloc _
  have a3 : Bx W0 (w2.heap.size + 1 + 1 + 1) #[.slice (some ⟨w2.heap.size + 1 + 1, 0, none⟩) 1 1] 26 := by rw [hW0]; exact Bx.new3 w2 _ _ _ _ _
  have hB0 : Below w.heap.size w W0 := by rw [hW0]; exact below_a (below_a (below_a (below_a HB2.out _) _) _) _
  have hs0 : W0.heap.size = w2.heap.size + 4 := by rw [hW0]; simp
  have HS0 := Lib.hid hs0
  have hkd := root_kd (X := fun b => b = w2.heap.size + 1) (c := 1) HK.out hB0 a2 (fun b h1 h2 => by omega) (by omega) hu (Nat.le_refl _)
  have hst := through_stops (fun b => b = w2.heap.size + 1) Gs W0 (fun b hb => by omega) (.cons h k .nil) _ (w2.heap.size + 1 + 1 + 1) (a3.c 0 rfl) hkd (allGs HG.out hS) (by simp [Fo.deep]; omega) (5 - 1) (by decide)
  have HST := Lib.hid hst
  clear hW0 hs0 hkd hst
  refine wpIn_rangeFunc_ownH rfl (by omega) (gf := 91) rfl trivial (enters_of Tryz.func91 (by kernel_rfl) rfl) HST.out Kx.trans (fun W l o o' _ h hc _ => Kx.putObj W l o o' h hc) (Below.refl _ _) (fun _ => rfl)
    (fun pre W => (((fitIt F pre = true) ∧ Bx W (w2.heap.size + 1) #[.nilIface] 57) ∧ Bx W w2.heap.size F.cells 115) ∧ (Below w.heap.size w W ∧ Kx (fun b => b = w2.heap.size + 1) W0 W))
    (fun c pre W => ((c = .exit 0 ∧ fitIt F pre = false) ∧ Bx W (w2.heap.size + 1) #[erV aF] 57) ∧ Below w.heap.size w W)
    (OwnFrom.and (OwnFrom.and (OwnFrom.and (ownFrom_pure _ _) (Own.from (bx_own _ _ _) _)) (Own.from (bx_own _ _ _) _)) (OwnFrom.and (ownFrom_below (Nat.le_refl _) (by have := HS0.out; omega)) (ownFrom_kx _ _)))
    (fun _ => OwnFrom.and (OwnFrom.and (ownFrom_pure _ _) (Own.from (bx_own _ _ _) _)) (ownFrom_below (Nat.le_refl _) (by have := HS0.out; omega)))
    ⟨⟨⟨rfl, a1⟩, a0⟩, hB0, Kx.refl _ _⟩
    (fun x a' W => ∃ C, Nx W C x.1.h x.1.v ∧ a' = { tmps := #[.agg #[.int .i64 h.kind, .bool h.b, .bool h.neg, .string h.dig, .int .i64 h.exp, .int .u64 (h.u : Int), .int .i64 h.w, .string h.s, .slice A k.len c], .int .i64 n, .pointer (some ⟨w.heap.size, 0, none⟩), undef, .nilIface, .pointer (some ⟨w2.heap.size, 0, none⟩), .pointer (some ⟨w2.heap.size + 1, 0, none⟩), undef, .pointer (some ⟨C, 0, none⟩), .int .i64 n, .agg #[.int .u64 (F.kinds : Int), .int .u64 (F.keys : Int), .bool F.whole, .int .u64 (F.below : Int), .int .i64 F.width, .bool F.narrow], .agg #[.int .u64 (F.kinds : Int), .int .u64 (F.keys : Int), .bool F.whole, .int .u64 (F.below : Int), .int .i64 F.width, .bool F.narrow], .agg #[.int .i64 h.kind, .bool h.b, .bool h.neg, .string h.dig, .int .i64 h.exp, .int .u64 (h.u : Int), .int .i64 h.w, .string h.s, .slice A k.len c], .slice (some ⟨w2.heap.size + 1 + 1, 0, none⟩) 1 1, .func (.func 91) #[] #[.pointer (some ⟨w2.heap.size + 1 + 1 + 1, 0, none⟩)], .int .i64 (x.1.d : Int), .agg #[.int .i64 x.1.h.kind, .bool x.1.h.b, .bool x.1.h.neg, .string x.1.h.dig, .int .i64 x.1.h.exp, .int .u64 (x.1.h.u : Int), .int .i64 x.1.h.w, .string x.1.h.s, x.1.v], undef, undef, undef, undef, undef, undef], defers := [] })
    (fun x a' _ _ _ _ hs hg hr => by
      obtain ⟨C, h2, h3⟩ := hs
      exact ⟨C, bx_kept h2 hg (fun r e => (hr r e).2), h3⟩)
    ?_ ?_ ?_ ?_
  · intro l pre x W K hI hK
    have HI := Lib.hid hI
    have HKK := Lib.hid hK
    clear hI hK a0 a1 a2 a3 hB0 q0 q1 q2 q3 q4 q5 q6 q7 q8
    obtain ⟨⟨d', h', v', k'⟩, hkx, hux, hdx⟩ := x
    obtain ⟨A', c', hv', _, _, _⟩ := hkx.form
    dsimp only at hv'
    subst hv'
    simp only [encI, Hd.cells] at HKK ⊢
    gi_wp2
    obtain ⟨⟨⟨i1, i2⟩, i3⟩, i5, i6⟩ := HI.out
    exact HKK.out _ _ ((KeepsOthers.alloc _ _).from _) ((Kx.refl _ _).alloc _) ⟨⟨⟨i1, i2.alloc _⟩, i3.alloc _⟩, below_a i5 _, i6.alloc _⟩ ⟨W.heap.size, Nx.new W _ _, rfl⟩
  · rintro l pre x a' W hl hlo ⟨⟨⟨i1, i2⟩, i3⟩, i5, i6⟩ ⟨C, hx, rfl⟩ hlen
    obtain ⟨⟨d', h', v', k'⟩, hkx, hux, hdx, hg⟩ := x
    obtain ⟨A', c', hv', _, _, _⟩ := hkx.form
    dsimp only at hv'
    subst hv'
    dsimp only at hx hkx hux hg
    have HI1 := Lib.hid i1
    have HI2 := Lib.hid i2
    have HI3 := Lib.hid i3
    have HI5 := Lib.hid i5
    have HI6 := Lib.hid i6
    obtain ⟨Q, hQ⟩ : ∃ Q, Q = fitN F h' k' := ⟨_, rfl⟩
    have HQ := Lib.hid hQ
    have HFi : Hid (Calls Tryz.prog 56 #[.agg F.cells, .agg (h'.cells (.slice A' k'.len c'))] W (BolP Q W)) := Lib.hid (by
      rw [hQ]
      exact fits_calls F HGF.out h' k' _ W (HT.out.below i5) ((Kd.kx hkx i6).mono fun _ _ _ => trivial) hg.2.1 hg.1 hg.2.2 hux)
    obtain ⟨b0, b1, b2, b3, b4, b5⟩ := Fx.six i3
    obtain ⟨n0, n1, n2, n3, n4, n5, n6, n7, n8⟩ := hx.nine
    clear i1 i2 i3 i5 i6 hx a0 a1 a2 a3 hB0 q0 q1 q2 q3 q4 q5 q6 q7 q8 hlo hQ
    simp only [Frm.cells, Hd.cells] at HFi
    gi_wp2_with fail
    refine ⟨trivial, CallsIn.inRound l ((callsIn_wide (n := 2)).2 ?_)⟩
    refine HFi.out.mono ?_
    rintro o W3 ⟨rfl, hb3⟩
    have J2 := Lib.hid (HI2.out.below hb3)
    have J3 := Lib.hid (HI3.out.below hb3)
    have J5 := Lib.hid (below_nx HI5.out hb3)
    have J6 := Lib.hid (HI6.out.trans (Kx.below hb3))
    have JK := Lib.hid (keepsO_bel hb3)
    have JX := Lib.hid (Kx.below (X := fun b => b = w2.heap.size + 1) hb3)
    clear hb3 HFi
    have g0 := (HE.out.below J5.out).f
    have e0 := J2.out.c 0 rfl
    have ef := J2.out.f 0
    have z1 := J2.out.lt
    cases Q with
    | true =>
      gi_wp2
      refine ⟨JK.out.from _, JX.out, ⟨⟨?_, J2.out⟩, J3.out⟩, J5.out, J6.out⟩
      rw [fitIt_app, HI1.out, Bool.true_and, fitIt, fitIt, Bool.and_true, ← HQ.out]
    | false =>
      gi_wp2
      refine ⟨(JK.out.trans (KeepsOthers.setCell _ _ _)).from _, ⟨⟨rfl, ?_⟩, J2.out.set 0 _⟩, J5.out.setCell (p := ⟨w2.heap.size + 1, 0, none⟩) (by show w.heap.size ≤ w2.heap.size + 1; omega) _⟩
      rw [fitIt_app, fitIt, ← HQ.out, Bool.false_and, Bool.and_false]
  · rintro D ys W hD hS ⟨⟨⟨i1, i2⟩, i3⟩, i5, i6⟩ hDf
    have HR : Hid (fitAll F (.cons h k .nil) = true) := Lib.hid (by rw [fl_fit F hS]; exact i1)
    have HDf := Lib.hid hDf
    have HI5 := Lib.hid i5
    have e0 := i2.c 0 rfl
    clear i1 i2 i3 i5 i6 hDf hS a0 a1 a2 a3 hB0 q0 q1 q2 q3 q4 q5 q6 q7 q8
    gi_wp2
    refine ⟨by simp, .inl ⟨_, _, rfl, run_takeDeferred HDf.out, ?_⟩⟩
    refine ⟨_, results_tmp rfl _ _ _, ?_⟩
    exact ⟨by rw [HR.out]; rfl, HI5.out.trans (belowK_b (w := w) (Nat.le_refl _) _ D _ _ (by have := HS0.out; omega) HDf.out rfl rfl)⟩
  · rintro D cc pre W hD ⟨xs, q, hS, hq⟩ ⟨⟨⟨rfl, i1⟩, i2⟩, i5⟩ hDf
    have HR : Hid (fitAll F (.cons h k .nil) = false) := Lib.hid (by rw [fl_fit F hS, hq, fitIt_app, i1, Bool.false_and])
    have HDf := Lib.hid hDf
    have HI5 := Lib.hid i5
    have e0 := i2.c 0 rfl
    clear i1 i2 i5 hDf hS hq a0 a1 a2 a3 hB0 q0 q1 q2 q3 q4 q5 q6 q7 q8
    gi_wp2
    refine ⟨by simp, .inl ⟨_, _, rfl, run_takeDeferred HDf.out, ?_⟩⟩
    refine ⟨_, results_tmp rfl _ _ _, ?_⟩
    exact ⟨by rw [HR.out]; rfl, HI5.out.trans (belowK_b (w := w) (Nat.le_refl _) _ D _ _ (by have := HS0.out; omega) HDf.out rfl rfl)⟩
end Go.Proofs.YtppapkpceejnkaaGreatDoor
