/- The law JsonwMaps. -/
import Derived.Test.YtallgamfjbkdgaaGreatDoorC1
import Derived.Test.YtallgamfjbkdgaaGreatDoorB0
import Derived.BigRegion
import Derived.Deep.QuietTactic
import Derived.BigQuiet
namespace Go.Proofs.YtallgamfjbkdgaaGreatDoor
open Go.RowKit

theorem was_take {qs : List ByteArray} {m : Nat} {q : ByteArray} (s : ByteArray) (h : qs[m]? = some q) : was s (qs.take (m + 1)) = (was s (qs.take m) || (q.toList == s.toList)) := by
  unfold was
  rw [List.take_add_one, h]
  simp
theorem was_all (qs : List ByteArray) (s : ByteArray) {m : Nat} (h : qs.length ≤ m) : was s (qs.take m) = was s qs := by rw [List.take_of_length_le h]
/-- What stands in the world while members are laid. -/
structure Mem (w0 : World) (Bo : Nat) (hn : Hd) (K : Fo) (qs : List ByteArray) (x : Value) (xs : List Value) (W : World) : Prop where
  ok : ∀ s ∈ qs, chk 1 (kH s) .nil = 0
  di : distF (keysL qs) = true
  ow : W.ownsRow (Bo + 1) 27 9 x (2 * qs.length) xs
  rw : Rw (fun b => b < Bo) W (mapF hn K qs) xs
  be : Below Bo w0 W
  nx : Nx W Bo hM x
theorem Mem.below {w0 W W' : World} {Bo : Nat} {hn : Hd} {K : Fo} {qs : List ByteArray} {x : Value} {xs : List Value} (h : Mem w0 Bo hn K qs x xs W) (hb : Below W.heap.size W W') : Mem w0 Bo hn K qs x xs W' :=
  ⟨h.ok, h.di, owns_below h.ow hb, Rw.kept hb.size (fun b _ hl => hb.block b hl) h.rw, h.be.trans (hb.mono (Nat.le_trans (Nat.le_of_lt h.nx.lt) (Nat.le_refl _))), h.nx.below hb⟩
theorem Mem.kd {w0 W : World} {Bo : Nat} {hn : Hd} {K : Fo} {qs : List ByteArray} {x : Value} {xs : List Value} (h : Mem w0 Bo hn K qs x xs W) (hl : qs.length ≤ 10) : Kd An W x (mapF hn K qs) := by
  have ho := h.ow
  rw [← mapF_len (hn := hn) (K := K)] at ho
  exact (kd_of_owns (P := An) ho (h.rw.mono fun _ _ _ => trivial) (fun _ _ _ => trivial) (by rw [mapF_len]; omega))
theorem Mem.form {w0 W : World} {Bo : Nat} {hn : Hd} {K : Fo} {qs : List ByteArray} {x : Value} {xs : List Value} (h : Mem w0 Bo hn K qs x xs W) : ∃ A c, x = .slice A (2 * qs.length) c := by
  obtain ⟨_, ⟨h, h'⟩ | ⟨g, cap, cur, h, _⟩⟩ := h.ow
  · exact ⟨none, 0, by rw [h, h']⟩
  · exact ⟨_, _, h⟩
/-- A member more. -/
theorem Mem.more {w0 W W3 : World} {Bo g cp : Nat} {hn : Hd} {K : Fo} {qs : List ByteArray} {x v : Value} {xs : List Value} {s : ByteArray} {o : Obj} (h : Mem w0 Bo hn K qs x xs W)
    (hn0 : hn.u < 18446744073709551616) (hk : Kd (fun b => b < Bo) W v K) (hs : chk 1 (kH s) .nil = 0) (hw : was s qs = false)
    (ho3 : W3.ownsRow (Bo + 1) 27 9 (.slice (some ⟨g, 0, none⟩) (2 * qs.length + 2) cp) (2 * qs.length + 2) (xs ++ (((kH s).cells (.slice none 0 0)).toList ++ (hn.cells v).toList)))
    (hg : (W.alloc o).grownBy W3 x.ownBlock) :
    Mem w0 Bo hn K (qs ++ [s]) (.slice (some ⟨g, 0, none⟩) (2 * qs.length + 2) cp) (xs ++ (((kH s).cells (.slice none 0 0)).toList ++ (hn.cells v).toList)) (W3.setCell ⟨Bo, 8, none⟩ (.slice (some ⟨g, 0, none⟩) (2 * qs.length + 2) cp)) := by
  have hlt := h.nx.lt
  have hbl : ∀ b, b < W.heap.size → x.ownBlock ≠ some b → W3.heap[b]? = W.heap[b]? := fun b hb hne => (hg.block b (by rw [World.size_alloc]; omega) (fun e => hne e.symm)).trans (Below.heap_alloc _ _ _ hb)
  have hsz : W.heap.size ≤ W3.heap.size := by have := hg.size; rw [World.size_alloc] at this; omega
  have hox : ∀ b, b < Bo + 1 → x.ownBlock ≠ some b := fun b hb e => by have := (owns_block h.ow e).1; omega
  have hnx : Nx W3 Bo hM x := (hbl Bo hlt (hox Bo (by omega))).trans h.nx
  have hkp : ∀ b, b < Bo → b < W.heap.size → (W3.setCell ⟨Bo, 8, none⟩ (.slice (some ⟨g, 0, none⟩) (2 * qs.length + 2) cp)).heap[b]? = W.heap[b]? := fun b hb hl =>
    (heap_setCell_other _ ⟨Bo, 8, none⟩ b _ (by show b ≠ Bo; omega)).trans (hbl b hl (hox b (by omega)))
  have hss : W.heap.size ≤ (W3.setCell ⟨Bo, 8, none⟩ (.slice (some ⟨g, 0, none⟩) (2 * qs.length + 2) cp)).heap.size := by rw [World.size_setCell]; exact hsz
  refine ⟨?_, dist_app qs s h.di hw, ?_, ?_, ?_, Bx.set hnx 8 _⟩
  · intro q hq
    rcases List.mem_append.1 hq with h1 | h1
    · exact h.ok q h1
    · rw [List.mem_singleton] at h1
      rw [h1]; exact hs
  · have := ownsRow_setCell_below (a := ⟨Bo, 8, none⟩) ho3 (show Bo < Bo + 1 by omega) (.slice (some ⟨g, 0, none⟩) (2 * qs.length + 2) cp)
    rw [List.length_append, List.length_singleton, show 2 * (qs.length + 1) = 2 * qs.length + 2 by omega]
    exact this
  · rw [mapF_app, app_assoc]
    refine rw_app (Rw.kept hss hkp h.rw) ?_
    refine ⟨.slice none 0 0, _, rfl, .inl ⟨_, _, rfl, rfl⟩, by show (0 : Nat) < 18446744073709551616; decide, ?_⟩
    exact ⟨v, [], by simp, hk.kept hss hkp, hn0, rfl⟩
  · refine Below.setCell (p := ⟨Bo, 8, none⟩) ?_ (Nat.le_refl _) _
    exact (h.be.alloc (Nat.le_of_lt hlt) _).grown hg (by rw [World.size_alloc]; omega) (fun r e => by have := (owns_block h.ow e).1; omega)
set_option maxRecDepth 100000 in
set_option maxHeartbeats 4000000 in
theorem maps_calls (ks : List ByteArray) (h : Hd) (k : Fo) (u v : Value) (w : World) (hT : Tj w) (hks : Ks w u ks) (hk : Kd An w v k) (hu : h.u < 18446744073709551616) : Calls Tryz.prog 6 #[u, .agg (h.cells v)] w (BolP true w) := by
  obtain ⟨A, c, rfl, _, _, _⟩ := hk.form
  obtain ⟨A', c', rfl, hkl, hkc, hkz⟩ := hks
  have HT := Lib.hid hT
  have HK := Lib.hid hk
  have HU := Lib.hid hu
  have HKc := Lib.hid hkc
  have HKz := Lib.hid hkz
  clear hT hk hu hkc hkz
  simp only [Hd.cells]
  go_enter Tryz.func6, Tryz.ntmps6
  go_wp2_with fail
  refine (jshown_calls _ (HT.out.below (below_a (Below.refl _ _) _))).mono ?_
  rintro o w1 ⟨rfl, hb1⟩
  have HX1 := Lib.hid ((Nx.new w h (.slice A k.len c)).below hb1)
  have HB1 := Lib.hid (below_nx (below_a (Below.refl _ _) _) hb1)
  clear hb1
  obtain ⟨q0, q1, q2, q3, q4, q5, q6, q7, q8⟩ := HX1.out.nine
  have hl1 := HX1.out.lt
  go_wp2_with fail
  refine (Few_calls k h _ _ (HK.out.below HB1.out) HU.out).mono ?_
  rintro o w2 ⟨v2, rfl, hk2, hb2⟩
  obtain ⟨h2, hh2⟩ : ∃ h2, h2 = cutH h := ⟨_, rfl⟩
  obtain ⟨K, hKK⟩ : ∃ K, K = fewK k := ⟨_, rfl⟩
  rw [← hh2]
  rw [← hKK] at hk2
  have HD : Hid (K.deep ≤ 17 ∧ AllG Gl (.cons h2 K .nil) ∧ h2.u < 18446744073709551616) := Lib.hid (by rw [hKK, hh2]; exact ⟨few_deep k, few_all _ k, HU.out⟩)
  have HX2 := Lib.hid (HX1.out.below hb2)
  have HB2 := Lib.hid (below_nx HB1.out hb2)
  have HKd := Lib.hid (hk2.mono (Q := fun b => w.heap.size < b) fun b hb _ => Nat.lt_of_lt_of_le hl1 hb)
  obtain ⟨A2, c2, rfl, _, _, _⟩ := hk2.form
  clear hk2 hb2 q0 q1 q2 q3 q4 q5 q6 q7 q8 HX1 HB1 hh2 hKK
  simp only [Hd.cells]
  have x := fun i => Bx.f HX2.out i
  have x0 := x 0
  have x1 := x 1
  have x2 := x 2
  have x3 := x 3
  have x4 := x 4
  have x5 := x 5
  have x6 := x 6
  have x7 := x 7
  have x8 := x 8
  clear x
  obtain ⟨y0, y1, y2, y3, y4, y5, y6, y7, y8⟩ := HX2.out.nine
  have hl2 := HX2.out.lt
  go_wp2_with fail
  obtain ⟨W3, hW3⟩ : ∃ W3, W3 = setN w2 w.heap.size h2 (.slice A2 K.len c2) := ⟨_, rfl⟩
  have HX3 : Hid (Nx W3 w.heap.size h2 (.slice A2 K.len c2)) := Lib.hid (by rw [hW3]; exact HX2.out.setN _ _)
  have HB3 : Hid (Below w.heap.size w W3) := Lib.hid (by rw [hW3]; exact below_setN HB2.out (Nat.le_refl _) _ _)
  have HK3 : Hid (Kd An W3 (.slice A2 K.len c2) K) := Lib.hid (by
    rw [hW3]
    exact (HKd.out.kept (by rw [size_setN]; exact Nat.le_refl _) fun b hb _ => setN_other (Nat.ne_of_gt hb)).mono fun _ _ _ => trivial)
  simp only [setN] at hW3
  rw [← hW3]
  clear hW3 x0 x1 x2 x3 x4 x5 x6 x7 x8 y0 y1 y2 y3 y4 y5 y6 y7 y8 HX2 HB2 HKd
  obtain ⟨N, hN⟩ : ∃ N, N = docB layP h2 K := ⟨_, rfl⟩
  obtain ⟨e, he⟩ : ∃ e, e = chk 1 h2 K := ⟨_, rfl⟩
  have HW : Hid (Calls Tryz.prog 9 #[.agg (h2.cells (.slice A2 K.len c2))] W3 fun o w' => o = .returned (.tuple #[.string N, .int .i64 e]) ∧ Below W3.heap.size W3 w') := Lib.hid (by
    have := Write_calls h2 K _ W3 (HT.out.below HB3.out) HK3.out HD.out.2.2 (by have := HD.out.1; omega) HD.out.2.1
    unfold DocP at this
    rwa [← hN, ← he] at this)
  have HCt : Hid (∀ W, Below W3.heap.size W3 W → Calls Tryz.prog 15 #[.agg (h2.cells (.slice A2 K.len c2))] W fun o w' => o = .returned (.int .i64 (wrap64 (1 + (K.cnt : Int)))) ∧ Below W.heap.size W w') := Lib.hid (fun W hW => rCount_calls K h2 _ W (HK3.out.below hW))
  have HDp : Hid (∀ W, Below W3.heap.size W3 W → Calls Tryz.prog 16 #[.agg (h2.cells (.slice A2 K.len c2))] W fun o w' => o = .returned (.int .i64 ((K.deep + 1 : Nat) : Int)) ∧ Below W.heap.size W w') := Lib.hid (fun W hW => rDepth_calls K h2 _ W (by have := HD.out.1; omega) (HK3.out.below hW))
  simp only [Hd.cells] at HW HCt HDp
  have HN := Lib.hid hN
  have HE := Lib.hid he
  clear hN he
  obtain ⟨q0, q1, q2, q3, q4, q5, q6, q7, q8⟩ := HX3.out.nine
  go_wp2_with fail
  refine HW.out.mono ?_
  rintro o w4 ⟨rfl, hb4⟩
  have HB4 := Lib.hid hb4
  clear hb4 q0 q1 q2 q3 q4 q5 q6 q7 q8 HW
  obtain ⟨q0, q1, q2, q3, q4, q5, q6, q7, q8⟩ := (HX3.out.below HB4.out).nine
  by_cases he : e = 0
  · subst he
    have HC0 : Hid (chk 1 h2 K = 0) := Lib.hid HE.out.symm
    have hcn : K.cnt ≤ 300 := by
      have h1 := (of_okA (.cons h2 K .nil) (by rw [okA, HC0.out]; rfl)).2.2
      simp only [Fo.cnt, Fo.len] at h1
      omega
    have hcw : wrap64 (1 + (K.cnt : Int)) = ((1 + K.cnt : Nat) : Int) := by unfold wrap64; omega
    rw [hcw] at HCt
    clear hcw
    go_wp2_with fail
    refine (HCt.out _ HB4.out).mono ?_
    rintro o w5 ⟨rfl, hb5⟩
    have HB5 := Lib.hid (below_nx HB4.out hb5)
    clear hb5 q0 q1 q2 q3 q4 q5 q6 q7 q8
    obtain ⟨q0, q1, q2, q3, q4, q5, q6, q7, q8⟩ := (HX3.out.below HB5.out).nine
    by_cases hc : 20 < 1 + K.cnt
    · have hc2 : (20 : Int) < ((1 + K.cnt : Nat) : Int) := by omega
      go_wp2_with fail
      go_ret
      exact ⟨rfl, below_nx HB3.out HB5.out⟩
    · have hc2 : ¬ (20 : Int) < ((1 + K.cnt : Nat) : Int) := by omega
      go_wp2_with fail
      refine (HDp.out _ HB5.out).mono ?_
      rintro o w6 ⟨rfl, hb6⟩
      have HB6 := Lib.hid (below_nx HB5.out hb6)
      clear hb6 q0 q1 q2 q3 q4 q5 q6 q7 q8
      by_cases hp : 15 < K.deep + 1
      · have hp2 : (15 : Int) < ((K.deep + 1 : Nat) : Int) := by omega
        go_wp2_with fail
        go_ret
        exact ⟨rfl, below_nx HB3.out HB6.out⟩
      · have hp2 : ¬ (15 : Int) < ((K.deep + 1 : Nat) : Int) := by omega
        have HX6 := Lib.hid (HX3.out.below HB6.out)
        have HBw := Lib.hid (below_nx HB3.out HB6.out)
        have hlw : w.heap.size < w6.heap.size := HX6.out.lt
        have HK6 : Hid (Kd (fun b => b < w6.heap.size) w6 (.slice A2 K.len c2) K) := Lib.hid ((HK3.out.below HB6.out).mono fun _ _ hl => hl)
        have HM0 : Hid (Mem w6 w6.heap.size h2 K [] (.slice none 0 0) [] (w6.alloc (.cells #[.int .i64 8, .bool false, .bool false, .string ⟨#[]⟩, .int .i64 0, .int .u64 0, .int .i64 0, .string ⟨#[]⟩, .slice none 0 0] 27))) := Lib.hid ⟨fun s hs => absurd hs (by simp), rfl, World.ownsRow_nil _ _ _ _, rfl, (Below.refl _ _).alloc (Nat.le_refl _) _, Nx.new w6 hM (.slice none 0 0)⟩
        obtain ⟨i0, hi0, hz0, hz1, hz2⟩ := infoN_parts
        have I0 := Lib.hid hi0
        have I1 := Lib.hid hz0
        have I2 := Lib.hid hz1
        have I3 := Lib.hid hz2
        have HH := Lib.hid (And.intro hc hp)
        clear hi0 hz0 hz1 hz2 HX3 HB3 HB4 HB5 HB6 HCt HDp HK3 hc hp hl1 hl2 HK HU
        go_wp2_with fail
        go_loopw [9, 10] (fun s i wr => ∃ (j : Nat) (qs : List ByteArray) (x : Value) (xs : List Value), i = .int .i64 j ∧ j ≤ ks.length ∧ j ≤ 10 ∧ qs.length ≤ j ∧ s = .string (wM N ⟨#[]⟩ qs) ∧ Mem w6 w6.heap.size h2 K qs x xs wr) (fun _ i _ => ks.length - (intOf i).toNat)
        case atStart => exact ⟨0, [], _, [], rfl, Nat.zero_le _, by omega, Nat.le_refl _, rfl, HM0.out⟩
        case round =>
          obtain ⟨j, qs, x, xs, rfl, hj, hj5, hql, rfl, hm⟩ := hrel
          have HM := Lib.hid hm
          clear hm HM0
          obtain ⟨S, hS⟩ : ∃ S, S = wM N ⟨#[]⟩ qs := ⟨_, rfl⟩
          rw [← hS]
          have HS := Lib.hid hS
          have hNs : N.size ≤ 810000 := by rw [HN.out]; exact docB_le _ _
          have hSs : S.size ≤ 20000000 := by
            have h1 := wM_size N qs ⟨#[]⟩
            rw [← hS] at h1
            have h2 : qs.length * (810002 + N.size) ≤ 10 * 1620002 := Nat.mul_le_mul (by omega) (by omega)
            have h3 : (ByteArray.mk #[]).size = 0 := rfl
            omega
          clear hS
          by_cases hgo : j < ks.length ∧ j < 10
          · obtain ⟨g1, g2⟩ := hgo
            obtain ⟨B, o, rfl, hB, hcs⟩ := HKc.out (by omega)
            obtain ⟨s0, hs0⟩ : ∃ s0, s0 = ks[j] := ⟨_, rfl⟩
            have d0 : wr.cell? ⟨B, o + j, none⟩ = some (.string s0) := by
              have h1 := hcs j s0 (by rw [hs0]; exact List.getElem?_eq_getElem g1)
              exact ((below_nx HBw.out HM.out.be).cell (p := ⟨B, o + j, none⟩) hB).trans h1
            have hBw : B < wr.heap.size := Nat.lt_of_lt_of_le hB (below_nx HBw.out HM.out.be).size
            have d1 : ((wr.alloc (.cells #[.int .i64 0, .bool false, .bool false, .string ⟨#[]⟩, .int .i64 0, .int .u64 0, .int .i64 0, .string ⟨#[]⟩, .slice none 0 0] 27)).drew).cell? ⟨B, o + j, none⟩ = some (.string s0) := (cell_of_block (Below.heap_alloc wr _ B hBw)).trans d0
            have hsz : s0.size ≤ 9223372036854775807 := HKz.out s0 (by rw [hs0]; exact List.getElem_mem _)
            obtain ⟨m1, hm1⟩ : ∃ m1, m1 = min s0.size 20 := ⟨_, rfl⟩
            have e1 : min (s0.size : Int) 20 = (m1 : Int) := by omega
            have l1 : m1 ≤ s0.size := by omega
            clear hs0 hm1 hcs
            go_wp2_with fail
            go_region
            obtain ⟨A5, c5, rfl⟩ := HM.out.form
            obtain ⟨t, ht⟩ : ∃ t, t = s0.extract 0 m1 := ⟨_, rfl⟩
            rw [← ht]
            obtain ⟨W1, hW1⟩ : ∃ W1, W1 = (wr.alloc (.cells #[.int .i64 5, .bool false, .bool false, .string ⟨#[]⟩, .int .i64 0, .int .u64 0, .int .i64 0, .string t, .slice none 0 0] 27)).drew := ⟨_, rfl⟩
            rw [← hW1]
            have HBk : Hid (Below wr.heap.size wr W1) := Lib.hid (by rw [hW1]; exact (below_a (Below.refl _ _) _).drew)
            have HXk : Hid (Nx W1 wr.heap.size (kH t) (.slice none 0 0)) := Lib.hid (by rw [hW1]; exact Nx.new wr (kH t) (.slice none 0 0))
            have HM1 := Lib.hid (HM.out.below HBk.out)
            obtain ⟨q, hq⟩ : ∃ q, q = docB layP (kH t) .nil := ⟨_, rfl⟩
            obtain ⟨f, hf⟩ : ∃ f, f = chk 1 (kH t) .nil := ⟨_, rfl⟩
            have HWk : Hid (Calls Tryz.prog 9 #[.agg ((kH t).cells (.slice none 0 0))] W1 fun o w' => o = .returned (.tuple #[.string q, .int .i64 f]) ∧ Below W1.heap.size W1 w') := Lib.hid (by
              have := Write_calls (kH t) .nil (.slice none 0 0) W1 (HT.out.below (below_nx (below_nx HBw.out HM.out.be) HBk.out)) (.inl ⟨_, _, rfl, rfl⟩) (by show (0 : Nat) < 18446744073709551616; decide) (by decide) (by simp [AllG, Gl, Fo.len])
              unfold DocP at this
              rwa [← hq, ← hf] at this)
            have hqs : q.size ≤ 810000 := by rw [hq]; exact docB_le _ _
            have HQ := Lib.hid (And.intro hq hf)
            clear hW1 ht hq hf d0 d1 e1 l1 hBw hsz
            simp only [Hd.cells, kH] at HWk
            obtain ⟨p0, p1, p2, p3, p4, p5, p6, p7, p8⟩ := HXk.out.nine
            simp only [kH] at p0 p1 p2 p3 p4 p5 p6 p7 p8
            go_wp2_with fail
            refine HWk.out.mono ?_
            rintro o7 w7 ⟨rfl, hb7⟩
            have HM7 := Lib.hid (HM1.out.below hb7)
            have HXk7 := Lib.hid (HXk.out.below hb7)
            clear hb7 p0 p1 p2 p3 p4 p5 p6 p7 p8 HWk HM1 HXk HBk
            go_wp2_with fail
            go_loopw [14, 15] (fun b i wq => ∃ m : Nat, i = .int .i64 ((2 * m : Nat) : Int) ∧ m ≤ qs.length ∧ b = .bool ((f != 0) || was t (qs.take m)) ∧ Below w7.heap.size w7 wq) (fun _ i _ => 2 * qs.length - (intOf i).toNat)
            case atStart => exact ⟨0, rfl, Nat.zero_le _, by simp [was], Below.refl _ _⟩
            case round =>
              obtain ⟨m, rfl, hm, rfl, hb⟩ := hrel
              have HBq := Lib.hid hb
              have HMq := Lib.hid (HM7.out.below hb)
              clear hb
              have c8 := HMq.out.nx.c8
              have hl10 : qs.length ≤ 10 := by omega
              obtain ⟨Z, hZ⟩ : ∃ Z, Z = ((f != 0) || was t (qs.take m)) := ⟨_, rfl⟩
              rw [← hZ]
              have HZ := Lib.hid hZ
              clear hZ
              by_cases hgo2 : m < qs.length
              · obtain ⟨A', c', e', _, _, hh⟩ := (HMq.out.kd hl10).form
                rw [mapF_len] at e' hh
                cases e'
                obtain ⟨B2, o2, rfl, hB2, _, hLi⟩ := hh (by omega)
                obtain ⟨qm, hqm⟩ : ∃ qm, qs[m]? = some qm := ⟨_, List.getElem?_eq_getElem hgo2⟩
                obtain ⟨r, hd⟩ := mapF_drop (hn := h2) (K := K) m qs hqm
                have hLj := lies_drop (2 * m) hLi
                rw [hd] at hLj
                obtain ⟨⟨v', hc', _⟩, _, _⟩ := lies_cons.1 hLj
                obtain ⟨d0, d1, d2, d3, d4, d5, d6, d7, d8⟩ := hc'.nine
                obtain ⟨p0, p1, p2, p3, p4, p5, p6, p7, p8⟩ := (HXk7.out.below HBq.out).nine
                simp only [kH] at d7 p7
                have HNx : Hid (.bool (Z || (qm.toList == t.toList)) = Value.bool ((f != 0) || was t (qs.take (m + 1)))) := Lib.hid (by rw [was_take t hqm, ← Bool.or_assoc, ← HZ.out])
                clear hLi hLj hc' hd d0 d1 d2 d3 d4 d5 d6 d8 p0 p1 p2 p3 p4 p5 p6 p8 hh hqm
                cases Z with
                | true =>
                  go_wp2_with fail
                  go_quiet (fail)
                  go_wp2_with fail
                  go_roundw
                  case rel => exact ⟨m + 1, by go_num, hgo2, HNx.out, below_drewN HBq.out _⟩
                  case measure => simp [intOf]; omega
                | false =>
                  go_wp2_with fail
                  go_quiet (fail)
                  go_wp2_with fail
                  go_roundw
                  case rel => exact ⟨m + 1, by go_num, hgo2, HNx.out, below_drewN HBq.out _⟩
                  case measure => simp [intOf]; omega
              · have HZe : Hid (Z = ((f != 0) || was t qs)) := Lib.hid (by rw [HZ.out, was_all qs t (by omega)])
                clear HZ
                cases Z with
                | true =>
                  go_wp2_with fail
                  go_roundw
                  case rel => exact ⟨j + 1, qs, _, xs, by go_num, g1, by omega, by omega, by rw [HS.out], HMq.out⟩
                  case measure => simp [intOf]; omega
                | false =>
                  have hf0 : f = 0 ∧ was t qs = false := by
                    have h1 := HZe.out
                    have h2 := Bool.or_eq_false_iff.1 h1.symm
                    exact ⟨by simpa using h2.1, h2.2⟩
                  have HF0 := Lib.hid hf0
                  clear hf0 HZe
                  obtain ⟨p0, p1, p2, p3, p4, p5, p6, p7, p8⟩ := (HXk7.out.below HBq.out).nine
                  simp only [kH] at p0 p1 p2 p3 p4 p5 p6 p7 p8
                  obtain ⟨n0, n1, n2, n3, n4, n5, n6, n7, n8⟩ := (HX6.out.below HMq.out.be).nine
                  have HTx : Hid (wM N ⟨#[]⟩ (qs ++ [t]) = (if S = ⟨#[]⟩ then S else S ++ ⟨#[44]⟩) ++ q ++ ⟨#[58]⟩ ++ N) := Lib.hid (by rw [wM_app, ← HS.out, mStep, HQ.out.1])
                  have hNe : S = ⟨#[]⟩ ∨ S ≠ ⟨#[]⟩ := by
                    by_cases h0 : S = ⟨#[]⟩
                    · exact .inl h0
                    · exact .inr h0
                  go_wp2_with (
                    at_builtin
                    refine wpList_append_lies _ rfl (.tmp 100) (.tmp 103) 25 rfl (w6.heap.size + 1) 27 i0 _ 9 104 Tryz.underlying25 I0.out I1.out I2.out I3.out rfl (by decide) (.slice A5 (2 * qs.length) c5) (2 * qs.length) xs rfl (HMq.out.ow.alloc _) ⟨wr.heap.size, 0, none⟩ 2 2 [.int .i64 5, .bool false, .bool false, .string ⟨#[]⟩, .int .i64 0, .int .u64 0, .int .i64 0, .string t, .slice none 0 0, .int .i64 h2.kind, .bool h2.b, .bool h2.neg, .string h2.dig, .int .i64 h2.exp, .int .u64 (h2.u : Int), .int .i64 h2.w, .string h2.s, .slice A2 K.len c2] rfl rfl (news_blk (#[.int .i64 5, .bool false, .bool false, .string ⟨#[]⟩, .int .i64 0, .int .u64 0, .int .i64 0, .string t, .slice none 0 0, .int .i64 h2.kind, .bool h2.b, .bool h2.neg, .string h2.dig, .int .i64 h2.exp, .int .u64 (h2.u : Int), .int .i64 h2.w, .string h2.s, .slice A2 K.len c2]) (heap_alloc_new wr _)) (by intro u hu; simp at hu; rcases hu with rfl | rfl | rfl | rfl | rfl | rfl | rfl | rfl | rfl | rfl | rfl | rfl | rfl | rfl | rfl | rfl | rfl | rfl <;> rfl) (by decide) (by unfold maxLen; omega) (by omega) (by have := HMq.out.nx.lt; simp; omega) _ rfl ?_
                    intro g cp w8 hown8 hg8 hl8 hlt8
                    have HF : Hid (Mem w6 w6.heap.size h2 K (qs ++ [t]) (.slice (some ⟨g, 0, none⟩) (2 * qs.length + 2) cp) (xs ++ (((kH t).cells (.slice none 0 0)).toList ++ (h2.cells (.slice A2 K.len c2)).toList)) (w8.setCell ⟨w6.heap.size, 8, none⟩ (.slice (some ⟨g, 0, none⟩) (2 * qs.length + 2) cp))) := Lib.hid (HMq.out.more HD.out.2.2 ((HK6.out.kept HMq.out.be.size fun b hb _ => HMq.out.be.block b hb)) (HQ.out.2.symm.trans HF0.out.1) HF0.out.2 hown8 hg8)
                    have HX8 : Hid (Nx w8 w6.heap.size hM (.slice A5 (2 * qs.length) c5)) := Lib.hid (by
                      have q := HMq.out.nx.alloc (.cells (#[.int .i64 5, .bool false, .bool false, .string ⟨#[]⟩, .int .i64 0, .int .u64 0, .int .i64 0, .string t, .slice none 0 0, .int .i64 h2.kind, .bool h2.b, .bool h2.neg, .string h2.dig, .int .i64 h2.exp, .int .u64 (h2.u : Int), .int .i64 h2.w, .string h2.s, .slice A2 K.len c2]) 27)
                      exact (hg8.block _ q.lt (fun e => by have := owns_block HMq.out.ow e.symm; omega)).trans q)
                    have f8 := Bx.f HX8.out 8
                    have c8' := HX8.out.c8
                    clear hown8 hg8 hl8 hlt8)
                  all_goals go_roundw
                  case measure => simp [intOf]; omega
                  case measure => simp [intOf]; omega
                  all_goals first
                    | (case measure => simp [intOf]; omega)
                    | (case rel =>
                      refine ⟨j + 1, qs ++ [t], _, _, by go_num, g1, by omega, by rw [List.length_append, List.length_singleton]; omega, ?_, HF.out⟩
                      rw [HTx.out]
                      rcases hNe with h0 | h0
                      · first
                          | (rw [if_pos h0]; done)
                          | (rename_i hq; rw [h0, Lib.toList_data] at hq; exact absurd hq (by decide))
                          | (rename_i hq _; rw [h0, Lib.toList_data] at hq; exact absurd hq (by decide))
                      · first
                          | (rw [if_neg h0]; done)
                          | (rename_i hq; exact absurd (str_inj (by rw [← Lib.toList_data]; simpa using hq)) h0)
                          | (rename_i hq _; exact absurd (str_inj (by rw [← Lib.toList_data]; simpa using hq)) h0))
          · obtain ⟨A5, c5, rfl⟩ := HM.out.form
            have hl10 : qs.length ≤ 10 := by omega
            have HKx := Lib.hid (HM.out.kd hl10)
            have HC1 : Hid (chk 1 hM (mapF h2 K qs) = 0) := Lib.hid (map_chk HC0.out HM.out.ok HM.out.di hl10 (by have := HH.out.1; omega) (by have := HH.out.2; omega))
            obtain ⟨D, hD⟩ : ∃ D, D = docB layP hM (mapF h2 K qs) := ⟨_, rfl⟩
            have HDs : Hid ((D.toList == (⟨#[123]⟩ ++ S ++ ⟨#[125]⟩).toList) = true) := Lib.hid (by
              rw [hD, map_doc HC0.out HM.out.ok HC1.out, HS.out, HN.out]
              exact beq_self_eq_true _)
            have HW : Hid (Calls Tryz.prog 9 #[.agg (hM.cells (.slice A5 (2 * qs.length) c5))] wr fun o w' => o = .returned (.tuple #[.string D, .int .i64 0]) ∧ Below wr.heap.size wr w') := Lib.hid (by
              have hg : AllG Gl (.cons hM (mapF h2 K qs) .nil) := by
                have h1 : ∀ (qs : List ByteArray), qs.length ≤ 10 → AllG Gl (mapF h2 K qs) := by
                  intro qs
                  induction qs with
                  | nil => intro _; trivial
                  | cons a r ih =>
                    intro hl
                    rw [List.length_cons] at hl
                    have h2 := HD.out.2.1
                    exact ⟨by show (Fo.nil).len < _; decide, trivial, h2.1, h2.2.1, ih (by omega)⟩
                exact allG_cons (gl_of (by rw [mapF_len]; omega)) (h1 qs hl10) trivial
              have := Write_calls hM (mapF h2 K qs) _ wr (HT.out.below (below_nx HBw.out HM.out.be)) HKx.out (by decide) (by have := mapF_deep (hn := h2) (K := K) qs; have := HD.out.1; omega) hg
              unfold DocP at this
              rwa [← hD, HC1.out] at this)
            simp only [Hd.cells, hM] at HW
            clear hD HC1 HKx
            obtain ⟨q0, q1, q2, q3, q4, q5, q6, q7, q8⟩ := HM.out.nx.nine
            simp only [hM] at q0 q1 q2 q3 q4 q5 q6 q7 q8
            have hend : (¬ (j : Int) < (ks.length : Int)) ∨ ((j : Int) < (ks.length : Int) ∧ ¬ (j : Int) < 10) := by omega
            have HBr := Lib.hid (below_nx HBw.out HM.out.be)
            rcases hend with h1 | ⟨h1, h2⟩
            all_goals go_wp2_with fail
            all_goals refine HW.out.mono ?_
            all_goals rintro o3 w7 ⟨rfl, hb7⟩
            all_goals have HB7 := Lib.hid (below_nx HBr.out hb7)
            all_goals clear hb7 q0 q1 q2 q3 q4 q5 q6 q7 q8
            all_goals go_wp2_with fail
            all_goals go_ret
            all_goals exact ⟨congrArg (fun b => Ending.returned (Value.bool b)) HDs.out, HB7.out⟩
  · have he2 : (e != 0) = true := by simpa using he
    have he3 : (e == 0) = false := by simpa using he
    go_wp2_with fail
    go_ret
    exact ⟨rfl, below_nx HB3.out HB4.out⟩
end Go.Proofs.YtallgamfjbkdgaaGreatDoor
