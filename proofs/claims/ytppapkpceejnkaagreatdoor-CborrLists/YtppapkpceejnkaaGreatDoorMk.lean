/- The program's own: fitsMap, fits. The program's own: fits. -/
import Derived.Test.YtppapkpceejnkaaGreatDoorTR
import Derived.Test.YtppapkpceejnkaaGreatDoorMj

namespace Go.Proofs.YtppapkpceejnkaaGreatDoor
open Go.RowKit Go.Shelf

attribute [local go_sem] Oper.semAt_some

/-- The kinds that there are. -/
def Gk : Hd → Fo → Prop := fun h _ => 1 ≤ h.kind ∧ h.kind ≤ 11
def keyAll (S : Nat) : Fo → Bool
  | .nil => true
  | .cons h _ r => hasB S h.kind && keyAll S r
def keyIt {X : Nat → Prop} {w0 : World} (S : Nat) : List (Ix X Gk w0) → Bool
  | [] => true
  | x :: xs => hasB S x.1.h.kind && keyIt S xs
section
variable {X : Nat → Prop} {w0 : World}
theorem keyIt_app (S : Nat) : ∀ (xs ys : List (Ix X Gk w0)), keyIt S (xs ++ ys) = (keyIt S xs && keyIt S ys)
  | [], _ => by simp [keyIt]
  | x :: xs, ys => by simp only [List.cons_append, keyIt]; rw [keyIt_app S xs ys, Bool.and_assoc]
theorem ky_key (S : Nat) : ∀ {f : Fo} {xs : List (Ix X Gk w0)}, Ky f xs → keyAll S f = keyIt S xs
  | .nil, _, h => by cases h; rfl
  | .cons _ _ _, _, ⟨x, ys, h1, _, h3, h4⟩ => by rw [h3, keyAll, keyIt, h1, ky_key S h4]
end
theorem keyAll_take (S : Nat) : ∀ (m : Nat) (f : Fo), keyAll S (keysF (f.take (2 * m))) = false → keyAll S (keysF f) = false
  | 0, _, h => by cases h
  | m + 1, .nil, h => by rw [show 2 * (m + 1) = 2 * m + 1 + 1 by omega] at h; exact h
  | m + 1, .cons _ _ .nil, h => by
    rw [show 2 * (m + 1) = 2 * m + 1 + 1 by omega] at h
    simp only [Fo.take] at h
    exact h
  | m + 1, .cons _ _ (.cons _ _ r), h => by
    rw [show 2 * (m + 1) = 2 * m + 1 + 1 by omega] at h
    simp only [Fo.take, keysF, keyAll] at h ⊢
    cases hq : hasB S _ with
    | false => rfl
    | true =>
      rw [hq, Bool.true_and] at h
      rw [Bool.true_and]
      exact keyAll_take S m r h
def fitMp (F : Frm) (k : Fo) : Bool := keyAll F.keys (keysF k)
def GoodF (F : Frm) : Prop := (F.kinds = 430 ∨ F.kinds = 32 ∨ F.kinds = 2046 ∨ F.kinds = 110 ∨ F.kinds = 2558 ∨ F.kinds = 0) ∧ (F.keys = 430 ∨ F.keys = 32 ∨ F.keys = 2046 ∨ F.keys = 110 ∨ F.keys = 2558 ∨ F.keys = 0)
theorem good_frm (n : Int) : GoodF (frmOf n) := by
  unfold frmOf
  repeat' split
  all_goals exact ⟨by simp, by simp⟩
set_option maxRecDepth 100000 in
set_option maxHeartbeats 1000000 in
theorem fitsMap_calls (F : Frm) (hF : GoodF F) (k : Fo) (v : Value) (w : World) (hk : Kd An w v k) (hG : AllG Gk k) (hfl : k.len < 1353245080301) : Calls Tryz.prog 97 #[.agg F.cells, v] w (BolP (fitMp F k) w) := by
  obtain ⟨A, c, rfl, _, _, _⟩ := hk.form
  have HK := Lib.hid hk
  have HG := Lib.hid hG
  have HF := Lib.hid hF
  clear hk hG hF
  simp only [Frm.cells]
  refine (callsIn_wide (n := 5)).1 ?_
  refine callsIn_of_wp_marks Tryz.func97 rfl trivial ?_ rfl
  simp only [Tryz.ntmps97, List.size_toArray, List.length_cons, List.length_nil, Nat.reduceAdd, Nat.reduceSub, Array.replicate_succ, Array.replicate_zero, List.push_toArray, List.append_toArray, List.nil_append, List.cons_append]
  gi_wp2_with (refine ⟨trivial, (callsIn_wide (n := _)).2 ?_⟩; refine (keys_calls _ _ _ _).mono ?_; rintro o w1 ⟨rfl, rfl⟩)
  obtain ⟨W0, hW0⟩ : ∃ W0, W0 = ((w.alloc (.cells #[.int .u64 (F.kinds : Int), .int .u64 (F.keys : Int), .bool F.whole, .int .u64 (F.below : Int), .int .i64 F.width, .bool F.narrow] 115)).alloc (.cells #[.bool false] 4)).alloc (.cells #[.slice A k.len c] 26) := ⟨_, rfl⟩
  rw [← hW0]
  have a0 : Fx W0 w.heap.size F := by rw [hW0]; exact ((Bx.new w _ _).alloc _).alloc _
  have a1 : Bx W0 (w.heap.size + 1) #[.bool false] 4 := by rw [hW0]; exact (Bx.new1 w _ _ _).alloc _
  have a3 : Bx W0 (w.heap.size + 1 + 1) #[.slice A k.len c] 26 := by rw [hW0]; exact Bx.new2 w _ _ _ _
  have hB0 : Below w.heap.size w W0 := by rw [hW0]; exact below_a (below_a (below_a (Below.refl _ w) _) _) _
  have hs0 : W0.heap.size = w.heap.size + 3 := by rw [hW0]; simp
  have HS0 := Lib.hid hs0
  have hst := keys_stops (fun b => b = w.heap.size + 1) Gk W0 k _ (w.heap.size + 1 + 1) (a3.c 0 rfl) (by omega) ((HK.out.mono (Q := fun b => ¬ (b = w.heap.size + 1)) fun b _ h1 => by omega).below hB0) HG.out hfl (5 - 1) (by decide)
  have HST := Lib.hid hst
  clear hW0 hs0 hst
  refine wpIn_rangeFunc_ownH rfl (by omega) (gf := 171) rfl trivial (enters_of Tryz.func171 (by kernel_rfl) rfl) HST.out Kx.trans (fun W l o o' _ h hc _ => Kx.putObj W l o o' h hc) (Below.refl _ _) (fun _ => rfl)
    (fun pre W => ((keyIt F.keys pre = true ∧ Bx W (w.heap.size + 1) #[.bool false] 4) ∧ Bx W w.heap.size F.cells 115) ∧ Below w.heap.size w W)
    (fun c pre W => ((c = .ret ∧ keyIt F.keys pre = false) ∧ Bx W (w.heap.size + 1) #[.bool false] 4) ∧ Below w.heap.size w W)
    (OwnFrom.and (OwnFrom.and (OwnFrom.and (ownFrom_pure _ _) (Own.from (bx_own _ _ _) _)) (Own.from (bx_own _ _ _) _)) (ownFrom_below (Nat.le_refl _) (by rw [HS0.out]; omega)))
    (fun _ => OwnFrom.and (OwnFrom.and (ownFrom_pure _ _) (Own.from (bx_own _ _ _) _)) (ownFrom_below (Nat.le_refl _) (by rw [HS0.out]; omega)))
    ⟨⟨⟨rfl, a1⟩, a0⟩, hB0⟩
    (fun x a' W => ∃ C, Nx W C x.1.h x.1.v ∧ a' = { tmps := #[.agg #[.int .u64 (F.kinds : Int), .int .u64 (F.keys : Int), .bool F.whole, .int .u64 (F.below : Int), .int .i64 F.width, .bool F.narrow], .slice A k.len c, .pointer (some ⟨w.heap.size, 0, none⟩), undef, .pointer (some ⟨w.heap.size + 1, 0, none⟩), .pointer (some ⟨C, 0, none⟩), .slice A k.len c, .func (.func 171) #[] #[.pointer (some ⟨w.heap.size + 1 + 1, 0, none⟩)], .agg #[.int .i64 x.1.h.kind, .bool x.1.h.b, .bool x.1.h.neg, .string x.1.h.dig, .int .i64 x.1.h.exp, .int .u64 (x.1.h.u : Int), .int .i64 x.1.h.w, .string x.1.h.s, x.1.v], undef, undef, undef, undef, undef, undef, undef], defers := [] })
    (fun x a' _ _ _ _ hs hg hr => by
      obtain ⟨C, h2, h3⟩ := hs
      exact ⟨C, bx_kept h2 hg (fun r e => (hr r e).2), h3⟩)
    ?_ ?_ ?_ ?_
  · intro l pre x W K hI hK
    have HI := Lib.hid hI
    have HKK := Lib.hid hK
    clear hI hK a0 a1 a3 hB0
    obtain ⟨⟨d', h', v', k'⟩, hkx, hux, hdx⟩ := x
    obtain ⟨A', c', hv', _, _, _⟩ := hkx.form
    dsimp only at hv'
    subst hv'
    simp only [encK, Hd.cells] at HKK ⊢
    gi_wp2
    obtain ⟨⟨⟨i1, i2⟩, i3⟩, i5⟩ := HI.out
    refine HKK.out _ _ ((KeepsOthers.alloc _ _).from _) ((Kx.refl _ _).alloc _) ⟨⟨⟨i1, i2.alloc _⟩, i3.alloc _⟩, below_a i5 _⟩ ⟨W.heap.size, Nx.new W _ _, rfl⟩
  · rintro l pre x a' W hl hlo ⟨⟨⟨i1, i2⟩, i3⟩, i5⟩ ⟨C, hx, rfl⟩ hlen
    obtain ⟨⟨d', h', v', k'⟩, hkx, hux, hdx, hg⟩ := x
    obtain ⟨A', c', hv', _, _, _⟩ := hkx.form
    dsimp only at hv'
    subst hv'
    dsimp only at hx hkx hux hg
    have HI1 := Lib.hid i1
    have HI2 := Lib.hid i2
    have HI3 := Lib.hid i3
    have HI5 := Lib.hid i5
    obtain ⟨b0, b1, b2, b3, b4, b5⟩ := Fx.six i3
    obtain ⟨n0, n1, n2, n3, n4, n5, n6, n7, n8⟩ := hx.nine
    have r0 := i2.c 0 rfl
    have rf := i2.f 0
    have z6 := i2.lt
    obtain ⟨Q, hQ⟩ : ∃ Q, Q = hasB F.keys h'.kind := ⟨_, rfl⟩
    have HQ := Lib.hid hQ
    have HH : Hid (∀ W, Calls Tryz.prog 94 #[.int .u64 (F.keys : Int), .int .i64 h'.kind] W fun o w' => o = .returned (.bool Q) ∧ w' = W) := Lib.hid (fun W => by rw [hQ]; exact has_calls F.keys h'.kind W HF.out.2 hg.1 hg.2)
    clear i1 i2 i3 i5 hx a0 a1 a3 hB0 hlo hQ
    gi_wp2_with fail
    refine ⟨trivial, CallsIn.inRound l ((callsIn_wide (n := 2)).2 ?_)⟩
    refine (HH.out _).mono ?_
    rintro o W3 ⟨rfl, rfl⟩
    cases Q with
    | true =>
      gi_wp2
      refine ⟨KeepsFrom.refl _ _, Kx.refl _ _, ⟨⟨?_, HI2.out⟩, HI3.out⟩, HI5.out⟩
      rw [keyIt_app, HI1.out, Bool.true_and, keyIt, keyIt, Bool.and_true, ← HQ.out]
    | false =>
      gi_wp2
      refine ⟨(KeepsOthers.setCell _ _ _).from _, ⟨⟨rfl, ?_⟩, HI2.out.set 0 _⟩, HI5.out.setCell (p := ⟨w.heap.size + 1, 0, none⟩) (by show w.heap.size ≤ w.heap.size + 1; omega) _⟩
      rw [keyIt_app, keyIt, ← HQ.out, Bool.false_and, Bool.and_false]
  · rintro D ys W hD hS ⟨⟨⟨i1, i2⟩, i3⟩, i5⟩ hDf
    have HI2 := Lib.hid i2
    have HI5 := Lib.hid i5
    have HDf := Lib.hid hDf
    have HL : Hid (fitMp F k = true) := Lib.hid (by rw [fitMp, ky_key F.keys hS]; exact i1)
    have r0 := i2.c 0 rfl
    have n0 := i2.f 0
    have z6 := i2.lt
    clear i1 i2 i3 i5 hDf hS a0 a1 a3 hB0
    gi_wp2
    have hdn : D ≠ w.heap.size + 1 := by have := HS0.out; omega
    have HR := Lib.hid (HI2.out.set 0 (.bool true))
    have HD2 := Lib.hid (show (W.setCell ⟨w.heap.size + 1, 0, none⟩ (.bool true)).heap[D]? = some (.deferred (some [])) from (heap_setCell_other _ ⟨w.heap.size + 1, 0, none⟩ D _ hdn).trans HDf.out)
    refine ⟨by simp, .inl ⟨_, _, rfl, run_takeDeferred HD2.out, ?_⟩⟩
    have q0 := (HR.out.putObj (.deferred none) HD2.out rfl).c 0 rfl
    refine ⟨.bool true, by simp [results, Tryz.results97, go_sem, q0], ?_⟩
    exact ⟨by rw [HL.out], (HI5.out.setCell (p := ⟨w.heap.size + 1, 0, none⟩) (by show w.heap.size ≤ w.heap.size + 1; omega) _).trans (belowK_b (w := w) (Nat.le_refl _) _ D _ _ (by have := HS0.out; omega) HD2.out rfl rfl)⟩
  · rintro D cc pre W hD ⟨m, hm, hS⟩ ⟨⟨⟨rfl, i0⟩, i1⟩, i2⟩ hDf
    have HI1 := Lib.hid i1
    have HI2 := Lib.hid i2
    have HDf := Lib.hid hDf
    have HL : Hid (fitMp F k = false) := Lib.hid (by rw [fitMp]; exact keyAll_take F.keys m k (by rw [ky_key F.keys hS]; exact i0))
    clear i0 i1 i2 hDf hS a0 a1 a3 hB0
    gi_wp2
    refine ⟨by simp, .inl ⟨_, _, rfl, run_takeDeferred HDf.out, ?_⟩⟩
    have q0 := (HI1.out.putObj (.deferred none) HDf.out rfl).c 0 rfl
    refine ⟨.bool false, by simp [results, Tryz.results97, go_sem, q0], ?_⟩
    exact ⟨by rw [HL.out], HI2.out.trans (belowK_b (w := w) (Nat.le_refl _) _ D _ _ (by have := HS0.out; omega) HDf.out rfl rfl)⟩
end Go.Proofs.YtppapkpceejnkaaGreatDoor

namespace Go.Proofs.YtppapkpceejnkaaGreatDoor
open Go.RowKit

/-- What the tables hold. -/
def Tt (w : World) : Prop := Tw w ∧ ErrR w
theorem Tt.below {A B : World} (h : Tt A) (hb : Below A.heap.size A B) : Tt B := ⟨h.1.below hb, h.2.below hb⟩
def fitN (F : Frm) (h : Hd) (k : Fo) : Bool := hasB F.kinds h.kind && (if h.kind = 3 then fitNum F h.neg h.dig h.exp else if h.kind = 4 then fitFl F h.u h.w else if h.kind = 8 then fitMp F k else true)
set_option maxRecDepth 100000 in
set_option maxHeartbeats 1000000 in
theorem fits_calls (F : Frm) (hF : GoodF F) (h : Hd) (k : Fo) (v : Value) (w : World) (hT : Tt w) (hk : Kd An w v k) (hG : AllG Gk k) (hg : Gk h k) (hfl : k.len < 1353245080301) (hu : h.u < 18446744073709551616) : Calls Tryz.prog 56 #[.agg F.cells, .agg (h.cells v)] w (BolP (fitN F h k) w) := by
  obtain ⟨A, c, rfl, _, _, _⟩ := hk.form
  have HK := Lib.hid hk
  have HG := Lib.hid hG
  have HT := Lib.hid hT
  have HFF := Lib.hid hF
  have HFl : Hid (∀ W, Tw W → Calls Tryz.prog 96 #[.agg F.cells, .int .u64 (h.u : Int), .int .i64 h.w] W (BolP (fitFl F h.u h.w) W)) := Lib.hid (fun W hW => fitsFloat_calls F h.u h.w W hu hW)
  have HNu : Hid (∀ W, ErrR W → Calls Tryz.prog 95 #[.agg F.cells, .agg #[.bool h.neg, .string h.dig, .int .i64 h.exp]] W (BolP (fitNum F h.neg h.dig h.exp) W)) := Lib.hid (fun W hW => fitsNum_calls F h.neg h.dig h.exp W hW)
  have HMp : Hid (∀ W, Kd An W (.slice A k.len c) k → Calls Tryz.prog 97 #[.agg F.cells, .slice A k.len c] W (BolP (fitMp F k) W)) := Lib.hid (fun W hW => fitsMap_calls F HFF.out k _ W hW HG.out hfl)
  obtain ⟨Q, hQ⟩ : ∃ Q, Q = hasB F.kinds h.kind := ⟨_, rfl⟩
  have HQ := Lib.hid hQ
  have HH : Hid (∀ W, Calls Tryz.prog 94 #[.int .u64 (F.kinds : Int), .int .i64 h.kind] W fun o w' => o = .returned (.bool Q) ∧ w' = W) := Lib.hid (fun W => by rw [hQ]; exact has_calls F.kinds h.kind W hF.1 hg.1 hg.2)
  clear hk hG hT hF hg hQ
  simp only [Frm.cells, Hd.cells] at HFl HNu HMp ⊢
  go_enter Tryz.func56, Tryz.ntmps56
  go_wp2_with fail
  refine (HH.out _).mono ?_
  rintro o w1 ⟨rfl, hw1⟩
  have HX : Hid (Nx w1 (w.heap.size + 1) h (.slice A k.len c)) := Lib.hid (by rw [hw1]; exact Bx.new1 w _ _ _)
  have HFx : Hid (Fx w1 w.heap.size F) := Lib.hid (by rw [hw1]; exact (show Fx _ _ F from (Bx.new w _ _).alloc _))
  have HB : Hid (Below w.heap.size w w1) := Lib.hid (by rw [hw1]; exact below_a (below_a (Below.refl _ _) _) _)
  clear hw1 HH
  cases Q with
  | false =>
    go_wp2_with fail
    go_ret
    exact ⟨by rw [fitN, ← HQ.out]; rfl, HB.out⟩
  | true =>
    obtain ⟨c0, c1, c2, c3, c4, c5, c6, c7, c8⟩ := HX.out.nine
    obtain ⟨b0, b1, b2, b3, b4, b5⟩ := HFx.out.six
    by_cases k3 : h.kind = 3
    · have HO : Hid (fitN F h k = fitNum F h.neg h.dig h.exp) := Lib.hid (by rw [fitN, ← HQ.out, if_pos k3]; rfl)
      go_wp2_with fail
      refine (HNu.out _ (HT.out.below HB.out).2).mono ?_
      rintro o w2 ⟨rfl, hb2⟩
      go_wp2_with fail
      go_ret
      exact ⟨by rw [HO.out]; rfl, below_nx HB.out hb2⟩
    · by_cases k4 : h.kind = 4
      · have HO : Hid (fitN F h k = fitFl F h.u h.w) := Lib.hid (by rw [fitN, ← HQ.out, if_neg k3, if_pos k4]; rfl)
        go_wp2_with fail
        refine (HFl.out _ (HT.out.below HB.out).1).mono ?_
        rintro o w2 ⟨rfl, hb2⟩
        go_wp2_with fail
        go_ret
        exact ⟨by rw [HO.out]; rfl, below_nx HB.out hb2⟩
      · by_cases k8 : h.kind = 8
        · have HO : Hid (fitN F h k = fitMp F k) := Lib.hid (by rw [fitN, ← HQ.out, if_neg k3, if_neg k4, if_pos k8]; rfl)
          go_wp2_with fail
          refine (HMp.out _ (HK.out.below HB.out)).mono ?_
          rintro o w2 ⟨rfl, hb2⟩
          go_wp2_with fail
          go_ret
          exact ⟨by rw [HO.out]; rfl, below_nx HB.out hb2⟩
        · have HO : Hid (fitN F h k = true) := Lib.hid (by rw [fitN, ← HQ.out, if_neg k3, if_neg k4, if_neg k8]; rfl)
          go_wp2_with fail
          go_ret
          exact ⟨by rw [HO.out]; rfl, HB.out⟩
end Go.Proofs.YtppapkpceejnkaaGreatDoor
