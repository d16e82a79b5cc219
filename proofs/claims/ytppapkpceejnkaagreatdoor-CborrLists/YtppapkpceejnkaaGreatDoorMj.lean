/- The iterator through: the walk of descend. The iterator through, as its callers range over it. The program's own: keys. The program's own: Count. The program's own: Depth. The program's own: isWithinLimits. -/
import Derived.Test.YtppapkpceejnkaaGreatDoorMa
import Derived.Laws.EntriesVeiled
import Derived.Test.YtppapkpceejnkaaGreatDoorMi
import Derived.Shelf.Strings.Repeat

namespace Go.Proofs.YtppapkpceejnkaaGreatDoor
open Go.RowKit

attribute [local go_sem] Oper.semAt_some

theorem yieldAt_any {m m' : Nat} {P : Program} {l : Nat} {args : Array Value} {W : World} {R : Ending → World → Prop} (h : YieldAt Fence.wide m P l args W R) : YieldAt Fence.wide m' P l args W R := by
  obtain ⟨fn, tmps, assign, body, hy, hR⟩ := h
  exact ⟨fn, tmps, assign, body, hy, hR.1, fun c cs _ => hR.2 c cs (room_wide _)⟩

theorem take_cnt : ∀ (j : Nat) (f : Fo) {h : Hd} {k r : Fo}, f.drop j = .cons h k r → (f.take j).cnt + (1 + k.cnt + r.cnt) = f.cnt
  | 0, .cons _ _ _, _, _, _, e => by cases e; simp [Fo.take, Fo.cnt]
  | 0, .nil, _, _, _, e => by cases e
  | _ + 1, .nil, _, _, _, e => by cases e
  | j + 1, .cons _ _ r, _, _, _, e => by have := take_cnt j r e; simp only [Fo.take, Fo.cnt]; omega
theorem drop_deep : ∀ (j : Nat) (f : Fo) {h : Hd} {k r : Fo}, f.drop j = .cons h k r → k.deep + 1 ≤ f.deep
  | 0, .cons _ _ _, _, _, _, e => by cases e; simp only [Fo.deep]; omega
  | 0, .nil, _, _, _, e => by cases e
  | _ + 1, .nil, _, _, _, e => by cases e
  | j + 1, .cons _ _ r, _, _, _, e => by have := drop_deep j r e; simp only [Fo.deep]; omega
theorem deep_drop : ∀ (j : Nat) (f : Fo) {h : Hd} {k r : Fo}, f.drop j = .cons h k r → r.deep ≤ f.deep
  | 0, .cons _ _ _, _, _, _, e => by cases e; simp only [Fo.deep]; omega
  | 0, .nil, _, _, _, e => by cases e
  | _ + 1, .nil, _, _, _, e => by cases e
  | j + 1, .cons _ _ r, _, _, _, e => by have := deep_drop j r e; simp only [Fo.deep]; omega
theorem fl_pre {X : Nat → Prop} {G : Hd → Fo → Prop} {w0 : World} : ∀ {j : Nat} {f : Fo} {d : Nat} {h : Hd} {k r : Fo} {xs : List (Ix X G w0)} (x : Ix X G w0), f.drop j = .cons h k r → Fl (f.take j) d xs → x.1.d = d → x.1.h = h → x.1.k = k → ∀ {ys zs : List (Ix X G w0)}, Fl k (d + 1) ys → Fl r d zs → Fl f d (xs ++ x :: (ys ++ zs))
  | 0, .cons _ _ _, _, _, _, _, _, x, e, h, h1, h2, h3, ys, zs, hy, hz => by cases e; cases h; exact ⟨x, ys, zs, h1, h2, h3, rfl, hy, hz⟩
  | 0, .nil, _, _, _, _, _, _, e, _, _, _, _, _, _, _, _ => by cases e
  | _ + 1, .nil, _, _, _, _, _, _, e, _, _, _, _, _, _, _, _ => by cases e
  | j + 1, .cons _ _ r, _, _, _, _, _, x, e, ⟨y, ps, bs, q1, q2, q3, q4, q5, q6⟩, h1, h2, h3, ys, zs, hy, hz => ⟨y, ps, bs ++ x :: (ys ++ zs), q1, q2, q3, by rw [q4]; simp, q5, fl_pre (j := j) (f := r) x e q6 h1 h2 h3 hy hz⟩
set_option maxRecDepth 100000 in
set_option maxHeartbeats 1000000 in
theorem descend_any (X : Nat → Prop) (G : Hd → Fo → Prop) (w0 : World) (hX : ∀ k, X k → k < w0.heap.size) (l N : Nat) (J Jx : List (Ix X G w0) → World → Prop) (hJ : ∀ pre W o, J pre W → J pre (W.alloc o))
    (hY : ∀ m pre x W1, J pre W1 → pre.length < N → YieldAt Fence.wide m Tryz.prog l (encI x) W1 fun e W' => (e = .returned (.bool true) ∧ J (pre ++ [x]) W' ∧ Kx X W1 W') ∨ (e = .returned (.bool false) ∧ Jx (pre ++ [x]) W'))
    (n : Nat) : ∀ (f : Fo) (d : Nat) (v : Value) (pre : List (Ix X G w0)) (W : World), f.cnt < n → d + f.deep < 4611686018427387904 → Kd (fun b => ¬ X b) w0 v f → AllG G f → Kx X w0 W → pre.length + f.cnt ≤ N → J pre W →
    CallsIn Fence.wide 2 Tryz.prog 92 #[.int .i64 (d : Int), v, .func (.yield l) #[] #[]] W fun e W' =>
      (∃ xs, Fl f d xs ∧ e = .returned (.bool true) ∧ J (pre ++ xs) W' ∧ Kx X w0 W') ∨ (∃ xs p q, Fl f d xs ∧ xs = p ++ q ∧ e = .returned (.bool false) ∧ Jx (pre ++ p) W') := by
  induction n with
  | zero => intro f d v pre W hn; omega
  | succ n ih =>
    intro f d v pre W hn hd hk hG hx hN h0
    have HG := Lib.hid hG
    obtain ⟨A, c, rfl, hc, hl, hL⟩ := hk.form
    have IH := Lib.hid ih
    have HL := Lib.hid hL
    have HN := Lib.hid hn
    have HD := Lib.hid hd
    have HX := Lib.hid hX
    have HJ := Lib.hid hJ
    have HY := Lib.hid hY
    have HK := Lib.hid hx
    have HNN := Lib.hid hN
    have H0 := Lib.hid h0
    clear ih hL hk hn hd hG hX hJ hY hx hN h0
    have hd1 : (d : Int) < 4611686018427387904 := by have := HD.out; omega
    refine callsIn_of_wp Tryz.func92 rfl trivial ?_ rfl
    simp only [Tryz.ntmps92, List.size_toArray, List.length_cons, List.length_nil, Nat.reduceAdd, Nat.reduceSub, Array.replicate_succ, Array.replicate_zero, List.push_toArray, List.append_toArray, List.nil_append, List.cons_append]
    gi_wp2
    gi_loopw [11] (fun i wr => ∃ (j : Nat) (xs : List (Ix X G w0)), i = .int .i64 j ∧ j ≤ f.len ∧ Fl (f.take j) d xs ∧ J (pre ++ xs) wr ∧ Kx X w0 wr) (fun i _ => f.len - (intOf i).toNat)
    case atStart => exact ⟨0, [], rfl, Nat.zero_le _, rfl, by simpa using H0.out, HK.out⟩
    case round =>
      obtain ⟨j, xs, rfl, hj, hfl, hJs, hkx⟩ := hrel
      have HF := Lib.hid hfl
      have HJs := Lib.hid hJs
      have HKx := Lib.hid hkx
      clear hfl hJs hkx
      by_cases hgo : j < f.len
      · obtain ⟨B, o, rfl, hB, hPB, hLi⟩ := HL.out (by omega)
        obtain ⟨h', k', r, hd⟩ := drop_cons hgo
        have hLj := lies_drop j hLi
        rw [hd] at hLj
        obtain ⟨⟨v', hc', hk'⟩, hu', _⟩ := lies_cons.1 hLj
        have hGj := allG_drop j HG.out
        rw [hd] at hGj
        obtain ⟨G1, G2, G3⟩ := hGj
        have HG2 := Lib.hid G2
        have hdd := drop_deep j f hd
        have hdc := take_cnt j f hd
        obtain ⟨x, hx1, hx2, hx3, hx4⟩ : ∃ x : Ix X G w0, x.1.d = d ∧ x.1.h = h' ∧ x.1.v = v' ∧ x.1.k = k' := ⟨⟨⟨d, h', v', k'⟩, hk', hu', by have := HD.out; show d < _; omega, G1⟩, rfl, rfl, rfl, rfl⟩
        obtain ⟨zs, hzs⟩ : ∃ zs : List (Ix X G w0), Fl r d zs := fl_lies (f := r) (lies_cons.1 hLj).2.2 G3 (by have := HD.out; have h6 : r.deep ≤ f.deep := deep_drop j f hd; omega)
        have HZs := Lib.hid hzs
        have HK' := Lib.hid hk'
        obtain ⟨A', c', rfl, _, _, _⟩ := hk'.form
        obtain ⟨d0, d1, d2, d3, d4, d5, d6, d7, d8⟩ := (hc'.kx HKx.out hPB).nine
        have HDr := Lib.hid hd
        have HXs := Lib.hid (show x.1.d = d ∧ x.1.h = h' ∧ x.1.k = k' from ⟨hx1, hx2, hx4⟩)
        have hxl : xs.length = (f.take j).cnt := fl_len HF.out
        have hbound : (pre ++ xs).length < N := by rw [List.length_append, hxl]; have := HNN.out; omega
        obtain ⟨fn, tmps, assign, body, hy, hR⟩ := HY.out 1 (pre ++ xs) x _ (HJ.out (pre ++ xs) wr (.cells (h'.cells (.slice A' k'.len c')) 28) HJs.out) hbound
        rw [encI, hx1, hx2, hx3] at hy
        simp only [Hd.cells] at hy hR
        have HC := Lib.hid hdc
        have HE := Lib.hid hdd
        clear G1 G2 G3
        clear hLi hLj hc' hk' hd hx1 hx2 hx3 hx4 hxl hbound hzs hdc hdd
        gi_wp2
        refine hR.mono ?_
        rintro e W3 (⟨rfl, hJ3, hk3⟩ | ⟨rfl, hJx3⟩)
        · have hbx := hk3.2 wr.heap.size _ _ _ (heap_alloc_new wr _) (fun h => by have := HX.out _ h; have := HKx.out.1; omega)
          have c8 := cell_of_row W3 wr.heap.size 8 _ _ _ hbx
          have HJ3 := Lib.hid hJ3
          have HK3 := Lib.hid (((HKx.out.alloc _).trans hk3))
          clear hbx hJ3 hk3
          simp only [List.getElem?_toArray, List.getElem?_cons_succ, List.getElem?_cons_zero] at c8
          gi_wp2_with fail
          refine ⟨trivial, (callsIn_wide (n := 1)).2 ((callsIn_wide (n := 2)).1 ?_)⟩
          refine (IH.out k' (d + 1) _ (pre ++ xs ++ [x]) W3 (by have := HN.out; have := HC.out; omega) (by have := HD.out; have := HE.out; omega) HK'.out HG2.out HK3.out (by have h7 := fl_len HF.out; have := HNN.out; have := HC.out; simp only [List.length_append, List.length_singleton]; omega) HJ3.out).mono ?_
          rintro e W4 (⟨ys, hys, rfl, hJ4, hk4⟩ | ⟨ys, p, q, hys, hpq, rfl, hJx4⟩)
          · have HY4 := Lib.hid hys
            have HJ4 := Lib.hid hJ4
            have HK4 := Lib.hid hk4
            clear hys hJ4 hk4
            gi_wp2
            refine ⟨⟨j + 1, xs ++ x :: ys, by go_num, hgo, ?_, ?_, HK4.out⟩, ?_⟩
            · rw [take_app j f HDr.out]
              exact fl_app HF.out ⟨x, ys, [], HXs.out.1, HXs.out.2.1, HXs.out.2.2, by simp, HY4.out, rfl⟩
            · have := HJ4.out
              simpa using this
            · simp [intOf]; omega
          · have HY4 := Lib.hid hys
            have HJ4 := Lib.hid hJx4
            have HPQ := Lib.hid hpq
            clear hys hJx4 hpq
            gi_wp2
            go_ret
            refine .inr ⟨xs ++ x :: (ys ++ zs), xs ++ x :: p, q ++ zs, fl_pre x HDr.out HF.out HXs.out.1 HXs.out.2.1 HXs.out.2.2 HY4.out HZs.out, by rw [HPQ.out]; simp, rfl, ?_⟩
            have := HJ4.out
            simpa using this
        · have HJ4 := Lib.hid hJx3
          obtain ⟨ys, hys⟩ := fl_kd (d := d + 1) HK'.out HG2.out (by have := HD.out; have := HE.out; omega)
          have HY4 := Lib.hid hys
          clear hJx3 hys
          gi_wp2
          refine ⟨trivial, ?_⟩
          gi_wp2
          go_ret
          refine .inr ⟨xs ++ x :: (ys ++ zs), xs ++ [x], ys ++ zs, fl_pre x HDr.out HF.out HXs.out.1 HXs.out.2.1 HXs.out.2.2 HY4.out HZs.out, by simp, rfl, ?_⟩
          have := HJ4.out
          simpa using this
      · gi_wp2
        go_ret
        refine .inl ⟨xs, ?_, rfl, HJs.out, HKx.out⟩
        have := HF.out
        rwa [show j = f.len by omega, take_all] at this
end Go.Proofs.YtppapkpceejnkaaGreatDoor

namespace Go.Proofs.YtppapkpceejnkaaGreatDoor
open Go.RowKit

attribute [local go_sem] Oper.semAt_some

set_option maxRecDepth 100000 in
theorem through_calls (A : Option Addr) (m c : Nat) (w : World) : Calls Tryz.prog 54 #[.slice A m c] w fun o w' => o = .returned (.func (.func 91) #[] #[.pointer (some ⟨w.heap.size, 0, none⟩)]) ∧ w' = w.alloc (.cells #[.slice A m c] 26) := by
  go_enter Tryz.func54, Tryz.ntmps54
  go_wp2
  go_ret
  exact ⟨rfl, rfl⟩

set_option maxRecDepth 100000 in
theorem through_stops (X : Nat → Prop) (G : Hd → Fo → Prop) (w0 : World) (hX : ∀ k, X k → k < w0.heap.size) (f : Fo) (v : Value) (Bs : Nat) (hs : w0.cell? ⟨Bs, 0, none⟩ = some v) (hk : Kd (fun b => ¬ X b) w0 v f) (hG : AllG G f) (hd : 1 + f.deep < 4611686018427387904) (n : Nat) (hn : 1 ≤ n) :
    SeqStopsK Fence.wide n Tryz.prog 91 #[.pointer (some ⟨Bs, 0, none⟩)] (encI (X := X) (G := G) (w0 := w0)) (Kx X) (fun xs => Fl f 1 xs) (fun p => ∃ xs q, Fl f 1 xs ∧ xs = p ++ q) f.cnt w0 := by
  intro l J Jx W hb hJ hJx hY h0
  obtain ⟨A, c, rfl, _, _, _⟩ := hk.form
  have HX := Lib.hid hX
  have HK := Lib.hid hk
  have HB := Lib.hid hb
  have HJ := Lib.hid hJ
  have HY := Lib.hid hY
  have H0 := Lib.hid h0
  have hc := (hb.cell (p := ⟨Bs, 0, none⟩) (lt_of_cell0 hs)).trans hs
  clear hX hk hb hJ hJx hY h0
  refine callsIn_of_wp Tryz.func91 rfl trivial ?_ rfl
  simp only [Tryz.ntmps91, List.size_toArray, List.length_cons, List.length_nil, Nat.reduceAdd, Nat.reduceSub, Array.replicate_succ, Array.replicate_zero, List.push_toArray, List.append_toArray, List.nil_append, List.cons_append]
  gi_wp2_with fail
  refine ⟨trivial, (callsIn_wide (n := _)).2 ((callsIn_wide (n := 2)).1 ?_)⟩
  refine (descend_any X G w0 HX.out l f.cnt J Jx (fun pre W o h => HJ.out pre W _ none h (World.grownBy_alloc W o none) (fun r e => by cases e)) (fun m pre x W1 h1 h2 => yieldAt_any (HY.out pre x W1 h1 h2)) (f.cnt + 1) f 1 _ [] W (by omega) hd HK.out hG (Kx.below HB.out) (by simp) H0.out).mono ?_
  rintro e W3 (⟨xs, h1, rfl, h3, h4⟩ | ⟨xs, p, q, h1, h2, rfl, h4⟩)
  · have G1 := Lib.hid h1
    have G2 := Lib.hid h3
    clear h1 h3 h4
    gi_wp2
    go_end0
    exact ⟨⟨_, rfl⟩, .inl ⟨xs, G1.out, by have := G2.out; simpa using this⟩⟩
  · have G1 := Lib.hid h1
    have G2 := Lib.hid h2
    have G3 := Lib.hid h4
    clear h1 h2 h4
    gi_wp2
    go_end0
    exact ⟨⟨_, rfl⟩, .inr ⟨p, ⟨xs, q, G1.out, G2.out⟩, by have := G3.out; simpa using this⟩⟩
end Go.Proofs.YtppapkpceejnkaaGreatDoor

namespace Go.Proofs.YtppapkpceejnkaaGreatDoor
open Go.RowKit

attribute [local go_sem] Oper.semAt_some

/-- Every second node. -/
def keysF : Fo → Fo
  | .nil => .nil
  | .cons h k .nil => .cons h k .nil
  | .cons h k (.cons _ _ r) => .cons h k (keysF r)
def encK {X : Nat → Prop} {G : Hd → Fo → Prop} {w0 : World} (x : Ix X G w0) : Array Value := #[.agg (x.1.h.cells x.1.v)]
/-- Nodes, one behind the other, as they are handed on. -/
def Ky {X : Nat → Prop} {G : Hd → Fo → Prop} {w0 : World} : Fo → List (Ix X G w0) → Prop
  | .nil, xs => xs = []
  | .cons h k r, xs => ∃ (x : Ix X G w0) (ys : List (Ix X G w0)), x.1.h = h ∧ x.1.k = k ∧ xs = x :: ys ∧ Ky r ys
section
variable {X : Nat → Prop} {G : Hd → Fo → Prop} {w0 : World}
theorem ky_app : ∀ {f g : Fo} {xs ys : List (Ix X G w0)}, Ky f xs → Ky g ys → Ky (f.app g) (xs ++ ys)
  | .nil, _, _, _, h, h2 => by cases h; exact h2
  | .cons _ _ _, _, _, ys, ⟨x, ps, h1, h2, h3, h4⟩, hg => ⟨x, ps ++ ys, h1, h2, by rw [h3]; rfl, ky_app h4 hg⟩
theorem ky_lies : ∀ {f : Fo} {B o : Nat}, Lies (fun b => ¬ X b) w0 f B o → AllG G f → ∃ xs : List (Ix X G w0), Ky f xs
  | .nil, _, _, _, _ => ⟨[], rfl⟩
  | .cons h k _, _, _, ⟨⟨v, hc, hk⟩, hu, hr⟩, ⟨g1, _, g3⟩ => by
    obtain ⟨ys, hy⟩ := ky_lies hr g3
    exact ⟨_, ⟨⟨0, h, v, k⟩, hk, hu, by show 0 < _; decide, g1⟩, ys, rfl, rfl, rfl, hy⟩
end
/-- Those at the even places before one. -/
theorem keysF_take : ∀ (m : Nat) (f : Fo) {h : Hd} {k r : Fo}, f.drop (2 * m) = .cons h k r → keysF (f.take (2 * (m + 1))) = (keysF (f.take (2 * m))).app (.cons h k .nil)
  | 0, .cons _ _ .nil, _, _, _, e => by cases e; rfl
  | 0, .cons _ _ (.cons _ _ _), _, _, _, e => by cases e; rfl
  | 0, .nil, _, _, _, e => by cases e
  | m + 1, .cons _ _ (.cons _ _ r), _, _, _, e => by
    have h1 := keysF_take m r (show r.drop (2 * m) = _ by rw [show 2 * (m + 1) = 2 * m + 1 + 1 by omega] at e; exact e)
    rw [show 2 * (m + 1 + 1) = 2 * (m + 1) + 1 + 1 by omega, show 2 * (m + 1) = 2 * m + 1 + 1 by omega]
    rw [show 2 * m + 1 + 1 = 2 * (m + 1) by omega]
    simp only [Fo.take, keysF]
    rw [h1, show 2 * (m + 1) = 2 * m + 1 + 1 by omega]
    rfl
  | m + 1, .cons _ _ .nil, _, _, _, e => by
    rw [show 2 * (m + 1) = 2 * m + 1 + 1 by omega] at e
    simp only [Fo.drop] at e
    cases e
  | m + 1, .nil, _, _, _, e => by
    rw [show 2 * (m + 1) = 2 * m + 1 + 1 by omega] at e
    cases e
theorem take_big : ∀ (n : Nat) (f : Fo), f.len ≤ n → f.take n = f
  | 0, .nil, _ => rfl
  | 0, .cons _ _ _, h => by simp [Fo.len] at h
  | _ + 1, .nil, _ => rfl
  | n + 1, .cons _ _ r, h => by simp only [Fo.take, Fo.len] at *; rw [take_big n r (by omega)]
set_option maxRecDepth 100000 in
theorem keys_calls (A : Option Addr) (m c : Nat) (w : World) : Calls Tryz.prog 131 #[.slice A m c] w fun o w' => o = .returned (.func (.func 171) #[] #[.pointer (some ⟨w.heap.size, 0, none⟩)]) ∧ w' = w.alloc (.cells #[.slice A m c] 26) := by
  go_enter Tryz.func131, Tryz.ntmps131
  go_wp2
  go_ret
  exact ⟨rfl, rfl⟩
set_option maxRecDepth 100000 in
set_option maxHeartbeats 1000000 in
theorem keys_stops (X : Nat → Prop) (G : Hd → Fo → Prop) (w0 : World) (f : Fo) (v : Value) (Bs : Nat) (hs : w0.cell? ⟨Bs, 0, none⟩ = some v) (hXs : ¬ X Bs) (hk : Kd (fun b => ¬ X b) w0 v f) (hG : AllG G f) (hlen : f.len < 1353245080301) (n : Nat) (hn : 1 ≤ n) :
    SeqStopsK Fence.wide n Tryz.prog 171 #[.pointer (some ⟨Bs, 0, none⟩)] (encK (X := X) (G := G) (w0 := w0)) (Kx X) (fun xs => Ky (keysF f) xs) (fun p => ∃ m, m ≤ f.len ∧ Ky (keysF (f.take (2 * m))) p) f.len w0 := by
  intro l J Jx W hb hJ hJx hY h0
  obtain ⟨A, c, rfl, hc, hl, hL⟩ := hk.form
  have HL := Lib.hid hL
  have HG := Lib.hid hG
  have HB := Lib.hid (Kx.below (X := X) hb)
  have HY := Lib.hid hY
  have HS : Hid (∀ W, Kx X w0 W → W.cell? ⟨Bs, 0, none⟩ = some (.slice A f.len c)) := Lib.hid (fun W hW => by
    obtain ⟨cs, T, fr, hbs⟩ := cells_of_cell hs
    exact (cell_of_block ((hW.2 Bs cs T fr hbs hXs).trans hbs.symm)).trans hs)
  have H0 := Lib.hid h0
  clear hL hk hG hb hJ hJx hY h0
  refine callsIn_of_wp Tryz.func171 rfl trivial ?_ rfl
  simp only [Tryz.ntmps171, List.size_toArray, List.length_cons, List.length_nil, Nat.reduceAdd, Nat.reduceSub, Array.replicate_succ, Array.replicate_zero, List.push_toArray, List.append_toArray, List.nil_append, List.cons_append]
  gi_wp2
  gi_loopw [3] (fun i wr => ∃ (m : Nat) (xs : List (Ix X G w0)), i = .int .i64 ((2 * m : Nat) : Int) ∧ 2 * m ≤ f.len + 1 ∧ xs.length = m ∧ Ky (keysF (f.take (2 * m))) xs ∧ J xs wr ∧ Kx X w0 wr) (fun i _ => f.len + 2 - (intOf i).toNat)
  case atStart => exact ⟨0, [], rfl, by omega, rfl, rfl, H0.out, HB.out⟩
  case round =>
    obtain ⟨m, xs, rfl, hm, hxl, hky, hJs, hkx⟩ := hrel
    have HKy := Lib.hid hky
    have HJs := Lib.hid hJs
    have HKx := Lib.hid hkx
    have c0 := HS.out _ hkx
    clear hky hJs hkx
    obtain ⟨j, hj⟩ : ∃ j, j = 2 * m := ⟨_, rfl⟩
    rw [← hj] at hm HKy ⊢
    have HJ2 := Lib.hid hj
    by_cases hgo : j < f.len
    · obtain ⟨B, o, rfl, hB, hPB, hLi⟩ := HL.out (by omega)
      obtain ⟨h', k', r, hd⟩ := drop_cons hgo
      have hLj := lies_drop j hLi
      rw [hd] at hLj
      obtain ⟨⟨v', hc', hk'⟩, hu', _⟩ := lies_cons.1 hLj
      have hGj := allG_drop j HG.out
      rw [hd] at hGj
      obtain ⟨x, hx2, hx3, hx4⟩ : ∃ x : Ix X G w0, x.1.h = h' ∧ x.1.v = v' ∧ x.1.k = k' := ⟨⟨⟨0, h', v', k'⟩, hk', hu', by show 0 < _; decide, hGj.1⟩, rfl, rfl, rfl⟩
      obtain ⟨A', c', rfl, _, _, _⟩ := hk'.form
      obtain ⟨d0, d1, d2, d3, d4, d5, d6, d7, d8⟩ := (hc'.kx HKx.out hPB).nine
      have HD := Lib.hid hd
      have HXs := Lib.hid (show x.1.h = h' ∧ x.1.k = k' from ⟨hx2, hx4⟩)
      obtain ⟨fn, tmps, assign, body, hy, hR⟩ := HY.out xs x wr HJs.out (by omega)
      rw [encK, hx2, hx3] at hy
      simp only [Hd.cells] at hy
      clear hLi hLj hc' hk' hd hx2 hx3 hx4 hj hGj
      gi_wp2
      refine hR.mono ?_
      rintro e W3 (⟨rfl, hJ3, hk3⟩ | ⟨rfl, hJx3⟩)
      · have HJ3 := Lib.hid hJ3
        have HK3 := Lib.hid (HKx.out.trans hk3)
        clear hJ3 hk3
        gi_wp2
        refine ⟨⟨m + 1, xs ++ [x], ?_, by have := HJ2.out; omega, by simp [hxl], ?_, HJ3.out, HK3.out⟩, ?_⟩
        · have := HJ2.out
          congr 1
          omega
        · have hd := HD.out
          rw [HJ2.out] at hd
          rw [keysF_take m f hd]
          have hk := HKy.out
          rw [HJ2.out] at hk
          exact ky_app hk ⟨x, [], HXs.out.1, HXs.out.2, rfl, rfl⟩
        · simp [intOf]; omega
      · have HJ3 := Lib.hid hJx3
        clear hJx3
        gi_wp2
        refine bodyPost_ret (results_none rfl _ _ _) rfl ?_
        refine ⟨⟨_, rfl⟩, .inr ⟨xs ++ [x], ⟨m + 1, by have := HJ2.out; omega, ?_⟩, HJ3.out⟩⟩
        have hd := HD.out
        rw [HJ2.out] at hd
        rw [keysF_take m f hd]
        have hk := HKy.out
        rw [HJ2.out] at hk
        exact ky_app hk ⟨x, [], HXs.out.1, HXs.out.2, rfl, rfl⟩
    · gi_wp2
      go_end0
      refine ⟨⟨_, rfl⟩, .inl ⟨xs, ?_, HJs.out⟩⟩
      have := HKy.out
      rwa [take_big j f (by omega)] at this
end Go.Proofs.YtppapkpceejnkaaGreatDoor

namespace Go.Proofs.YtppapkpceejnkaaGreatDoor
open Go.RowKit Go.Shelf

attribute [local go_sem] Oper.semAt_some

theorem through_in (n : Nat) (A : Option Addr) (m c : Nat) (w : World) : CallsIn Fence.wide n Tryz.prog 54 #[.slice A m c] w fun o w' => o = .returned (.func (.func 91) #[] #[.pointer (some ⟨w.heap.size, 0, none⟩)]) ∧ w' = w.alloc (.cells #[.slice A m c] 26) := (callsIn_wide (n := n)).2 (through_calls A m c w)
theorem root_kd {X : Nat → Prop} {w W0 : World} {B2 c : Nat} {h : Hd} {v : Value} {k : Fo} {fr : Nat × Nat} {T : TypeId} (hk : Kd An w v k) (hb : Below w.heap.size w W0) (hB : W0.heap[B2]? = some (.cells (h.cells v) T fr)) (hX : ∀ b, b < w.heap.size → ¬ X b) (hX2 : ¬ X B2) (hu : h.u < 18446744073709551616) (hc : 1 ≤ c) :
    Kd (fun b => ¬ X b) W0 (.slice (some ⟨B2, 0, none⟩) 1 c) (.cons h k .nil) := by
  refine .inr ⟨B2, 0, c, rfl, hc, by simp [Fo.len], (Array.getElem?_eq_some_iff.1 hB).1, hX2, lies_cons.2 ⟨⟨v, ?_, ?_⟩, hu, trivial⟩⟩
  · intro i u hi
    simp [World.cell?, hB, hi]
  · exact (hk.mono (Q := fun b => ¬ X b) fun b _ hb => hX b hb).below hb
theorem bx_kept {A B : World} {row : Option Nat} {b : Nat} {cs : Array Value} {T : TypeId} (hs : Bx A b cs T) (hg : A.grownBy B row) (hr : ∀ r, row = some r → ∃ o : Obj, A.heap[r]? = some o ∧ o.isCells = false) : Bx B b cs T :=
  (hg.block b hs.lt (fun e => by obtain ⟨o, ho, hc⟩ := hr b e.symm; rw [show A.heap[b]? = _ from hs] at ho; cases ho; cases hc)).trans hs
theorem bx_own (b : Nat) (T : TypeId) {β : Type} (f : β → Array Value) : Own (fun s W => Bx W b (f s) T) := fun _ _ _ _ hs hg hr => bx_kept hs hg hr
end Go.Proofs.YtppapkpceejnkaaGreatDoor

namespace Go.Proofs.YtppapkpceejnkaaGreatDoor
open Go.RowKit Go.Shelf

attribute [local go_sem] Oper.semAt_some

/-- The greatest depth. -/
def dmx {X : Nat → Prop} {G : Hd → Fo → Prop} {w0 : World} : List (Ix X G w0) → Nat
  | [] => 0
  | x :: xs => max x.1.d (dmx xs)
section
variable {X : Nat → Prop} {G : Hd → Fo → Prop} {w0 : World}
theorem dmx_app : ∀ (xs ys : List (Ix X G w0)), dmx (xs ++ ys) = max (dmx xs) (dmx ys)
  | [], ys => by simp [dmx]
  | x :: xs, ys => by simp only [List.cons_append, dmx]; rw [dmx_app xs ys]; omega
theorem dmx_le : ∀ {xs : List (Ix X G w0)} {x : Ix X G w0}, x ∈ xs → x.1.d ≤ dmx xs
  | _ :: xs, x, h => by
    rcases List.mem_cons.1 h with rfl | h
    · simp only [dmx]; omega
    · have := dmx_le h; simp only [dmx]; omega
theorem fl_deep : ∀ {f : Fo} {d : Nat} {xs : List (Ix X G w0)}, Fl f d xs → (f.deep = 0 ∧ dmx xs = 0) ∨ (0 < f.deep ∧ dmx xs + 1 = d + f.deep)
  | .nil, _, _, h => by cases h; exact .inl ⟨rfl, rfl⟩
  | .cons _ _ _, d, _, ⟨x, ys, zs, h1, h2, h3, h4, h5, h6⟩ => by
    have e5 := fl_deep h5
    have e6 := fl_deep h6
    rw [h4]
    simp only [dmx, Fo.deep]
    rw [dmx_app, h1]
    omega
end
end Go.Proofs.YtppapkpceejnkaaGreatDoor

namespace Go.Proofs.YtppapkpceejnkaaGreatDoor
open Go.RowKit Go.Shelf

attribute [local go_sem] Oper.semAt_some

theorem Bx.new4 (W : World) (o o' o'' o3 : Obj) (cs : Array Value) (T : TypeId) : Bx (((((W.alloc o).alloc o').alloc o'').alloc o3).alloc (.cells cs T)) (W.heap.size + 1 + 1 + 1 + 1) cs T := by
  have := Bx.new3 (W.alloc o) o' o'' o3 cs T
  rwa [World.size_alloc] at this
theorem Bx.putObj {A : World} {b l : Nat} {cs : Array Value} {T : TypeId} {o : Obj} (o' : Obj) (hs : Bx A b cs T) (hl : A.heap[l]? = some o) (ho : o.isCells = false) : Bx (A.putObj l o') b cs T :=
  bx_kept hs (grownBy_putObj' A l o') (fun r e => by cases e; exact ⟨o, hl, ho⟩)
set_option maxRecDepth 100000 in
set_option maxHeartbeats 600000 in
theorem within_tree_calls (k : Fo) (h : Hd) (v : Value) (w : World) (hk : Kd An w v k) (hu : h.u < 18446744073709551616) (hd : k.deep < 1000) :
    Calls Tryz.prog 52 #[.agg (h.cells v)] w fun o w' => o = .returned (.bool (decide (1 + k.cnt ≤ 300 ∧ k.deep + 1 ≤ 16))) ∧ Below w.heap.size w w' := by
  obtain ⟨A, c, rfl, _, _, _⟩ := hk.form
  have HK := Lib.hid hk
  clear hk
  simp only [Hd.cells]
  refine (callsIn_wide (n := 5)).1 ?_
  refine callsIn_of_wp_marks Tryz.func52 rfl trivial ?_ rfl
  simp only [Tryz.ntmps52, List.size_toArray, List.length_cons, List.length_nil, Nat.reduceAdd, Nat.reduceSub, Array.replicate_succ, Array.replicate_zero, List.push_toArray, List.append_toArray, List.nil_append, List.cons_append]
  gi_wp2_with (refine ⟨trivial, ?_⟩; gi_at_call 54; refine (through_in _ _ _ _ _).mono ?_; rintro o w1 ⟨rfl, rfl⟩)
  obtain ⟨W0, hW0⟩ : ∃ W0, W0 = ((((w.alloc (.cells #[.int .i64 h.kind, .bool h.b, .bool h.neg, .string h.dig, .int .i64 h.exp, .int .u64 (h.u : Int), .int .i64 h.w, .string h.s, .slice A k.len c] 28)).alloc (.cells #[.bool false] 4)).alloc (.cells #[.int .i64 0] 3)).alloc (.cells #[.int .i64 h.kind, .bool h.b, .bool h.neg, .string h.dig, .int .i64 h.exp, .int .u64 (h.u : Int), .int .i64 h.w, .string h.s, .slice A k.len c] 28)).alloc (.cells #[.slice (some ⟨w.heap.size + 1 + 1 + 1, 0, none⟩) 1 1] 26) := ⟨_, rfl⟩
  rw [← hW0]
  have a0 : Bx W0 (w.heap.size + 1) #[.bool false] 4 := by rw [hW0]; exact (((Bx.new1 w _ _ _).alloc _).alloc _).alloc _
  have a1 : Bx W0 (w.heap.size + 1 + 1) #[.int .i64 0] 3 := by rw [hW0]; exact ((Bx.new2 w _ _ _ _).alloc _).alloc _
  have a2 : Nx W0 (w.heap.size + 1 + 1 + 1) h (.slice A k.len c) := by rw [hW0]; exact (Bx.new3 w _ _ _ _ _).alloc _
  have a3 : Bx W0 (w.heap.size + 1 + 1 + 1 + 1) #[.slice (some ⟨w.heap.size + 1 + 1 + 1, 0, none⟩) 1 1] 26 := by rw [hW0]; exact Bx.new4 w _ _ _ _ _ _
  have hB0 : Below w.heap.size w W0 := by rw [hW0]; exact below_a (below_a (below_a (below_a (below_a (Below.refl _ w) _) _) _) _) _
  have hs0 : W0.heap.size = w.heap.size + 5 := by rw [hW0]; simp
  have HS0 := Lib.hid hs0
  have hkd := root_kd (X := fun b => b = w.heap.size + 1 + 1) (c := 1) HK.out hB0 a2 (fun b h1 h2 => by omega) (by omega) hu (Nat.le_refl _)
  have hst := through_stops (fun b => b = w.heap.size + 1 + 1) Gt W0 (fun b hb => by omega) (.cons h k .nil) _ (w.heap.size + 1 + 1 + 1 + 1) (a3.c 0 rfl) hkd (allGt _) (by simp [Fo.deep]; omega) (5 - 1) (by decide)
  have HST := Lib.hid hst
  clear hW0 hs0 hkd hst
  refine wpIn_rangeFunc_ownH rfl (by omega) (gf := 91) rfl trivial (enters_of Tryz.func91 (by kernel_rfl) rfl) HST.out Kx.trans (fun W l o o' _ h hc _ => Kx.putObj W l o o' h hc) (Below.refl _ _) (fun _ => rfl)
    (fun pre W => ((dmx pre ≤ 16 ∧ pre.length ≤ 300) ∧ Bx W (w.heap.size + 1 + 1) #[.int .i64 (pre.length : Int)] 3 ∧ Bx W (w.heap.size + 1) #[.bool false] 4) ∧ Below w.heap.size w W)
    (fun c pre W => ((c = .ret ∧ ¬ (dmx pre ≤ 16 ∧ pre.length ≤ 300)) ∧ Bx W (w.heap.size + 1) #[.bool false] 4) ∧ Below w.heap.size w W)
    (OwnFrom.and (OwnFrom.and (ownFrom_pure _ _) (OwnFrom.and (Own.from (bx_own _ _ _) _) (Own.from (bx_own _ _ _) _))) (ownFrom_below (Nat.le_refl _) (by rw [HS0.out]; omega)))
    (fun _ => OwnFrom.and (OwnFrom.and (ownFrom_pure _ _) (Own.from (bx_own _ _ _) _)) (ownFrom_below (Nat.le_refl _) (by rw [HS0.out]; omega)))
    ⟨⟨⟨by simp [dmx], by simp⟩, a1, a0⟩, hB0⟩
    (fun x a' W => a' = { tmps := #[.agg #[.int .i64 h.kind, .bool h.b, .bool h.neg, .string h.dig, .int .i64 h.exp, .int .u64 (h.u : Int), .int .i64 h.w, .string h.s, .slice A k.len c], .pointer (some ⟨w.heap.size, 0, none⟩), .pointer (some ⟨w.heap.size + 1, 0, none⟩), .pointer (some ⟨w.heap.size + 1 + 1, 0, none⟩), .int .i64 (x.1.d : Int), .agg #[.int .i64 h.kind, .bool h.b, .bool h.neg, .string h.dig, .int .i64 h.exp, .int .u64 (h.u : Int), .int .i64 h.w, .string h.s, .slice A k.len c], .slice (some ⟨w.heap.size + 1 + 1 + 1, 0, none⟩) 1 1, .func (.func 91) #[] #[.pointer (some ⟨w.heap.size + 1 + 1 + 1 + 1, 0, none⟩)], .int .i64 (x.1.d : Int), .agg #[.int .i64 x.1.h.kind, .bool x.1.h.b, .bool x.1.h.neg, .string x.1.h.dig, .int .i64 x.1.h.exp, .int .u64 (x.1.h.u : Int), .int .i64 x.1.h.w, .string x.1.h.s, x.1.v], undef, undef, undef, undef, undef, undef, undef, undef], defers := [] })
    (fun x a' _ _ _ _ hs _ _ => hs)
    ?_ ?_ ?_ ?_
  · intro l pre x W K hI hK
    have HI := Lib.hid hI
    have HKK := Lib.hid hK
    clear hI hK a0 a1 a2 a3 hB0
    simp only [encI, Hd.cells]
    gi_wp2
    exact HKK.out _ _ (KeepsFrom.refl _ _) (Kx.refl _ _) HI.out rfl
  · rintro l pre x a' W hl hlo ⟨⟨⟨i0, i4⟩, i1, i3⟩, i2⟩ rfl hlen
    have HI0 := Lib.hid i0
    have HI1 := Lib.hid i1
    have HI2 := Lib.hid i2
    have HI3 := Lib.hid i3
    have HQ := Lib.hid (show dmx (pre ++ [x]) = max (dmx pre) x.1.d by rw [dmx_app]; simp [dmx])
    have c0 := i1.c 0 rfl
    have m0 := i1.f 0
    have z5 := i1.lt
    have r0 := i3.c 0 rfl
    have n0 := i3.f 0
    have z6 := i3.lt
    clear i0 i1 i2 i3 a0 a1 a2 a3 hB0 hlo
    by_cases hg1 : (16 : Int) < (x.1.d : Int)
    · gi_wp2
      refine ⟨((KeepsOthers.setCell _ _ _).trans (KeepsOthers.setCell _ _ _)).from _, ⟨⟨rfl, ?_⟩, ?_⟩, (HI2.out.setCell (p := ⟨w.heap.size + 1 + 1, 0, none⟩) (by show w.heap.size ≤ w.heap.size + 1 + 1; omega) _).setCell (p := ⟨w.heap.size + 1, 0, none⟩) (by show w.heap.size ≤ w.heap.size + 1; omega) _⟩
      · rw [HQ.out]; omega
      · exact (HI3.out.off (by omega)).set 0 _
    · by_cases hg2 : (300 : Int) < (pre.length : Int) + 1
      · gi_wp2
        refine ⟨((KeepsOthers.setCell _ _ _).trans (KeepsOthers.setCell _ _ _)).from _, ⟨⟨rfl, ?_⟩, ?_⟩, (HI2.out.setCell (p := ⟨w.heap.size + 1 + 1, 0, none⟩) (by show w.heap.size ≤ w.heap.size + 1 + 1; omega) _).setCell (p := ⟨w.heap.size + 1, 0, none⟩) (by show w.heap.size ≤ w.heap.size + 1; omega) _⟩
        · rw [List.length_append, List.length_singleton]; omega
        · exact (HI3.out.off (by omega)).set 0 _
      · gi_wp2
        refine ⟨(KeepsOthers.setCell _ _ _).from _, (Kx.refl _ _).set rfl, ⟨⟨by rw [HQ.out]; have := HI0.out; omega, by rw [List.length_append, List.length_singleton]; omega⟩, ?_, HI3.out.off (by omega)⟩, HI2.out.setCell (p := ⟨w.heap.size + 1 + 1, 0, none⟩) (by show w.heap.size ≤ w.heap.size + 1 + 1; omega) _⟩
        have := HI1.out.set 0 (.int .i64 ((pre.length : Int) + 1))
        rw [List.length_append, List.length_singleton, Int.natCast_add]
        exact this
  · rintro D ys W hD hS ⟨⟨⟨i0, i4⟩, i1, i3⟩, i2⟩ hDf
    have HI2 := Lib.hid i2
    have HI3 := Lib.hid i3
    have HDf := Lib.hid hDf
    have HL := Lib.hid (fl_deep hS)
    have HL2 := Lib.hid (fl_len hS)
    have HI0 := Lib.hid i0
    have r0 := i3.c 0 rfl
    have n0 := i3.f 0
    have z6 := i3.lt
    clear i0 i1 i2 i3 hDf hS a0 a1 a2 a3 hB0
    gi_wp2
    have hdn : D ≠ w.heap.size + 1 := by have := HS0.out; omega
    have HR := Lib.hid (HI3.out.set 0 (.bool true))
    have HD2 := Lib.hid (show (W.setCell ⟨w.heap.size + 1, 0, none⟩ (.bool true)).heap[D]? = some (.deferred (some [])) from (heap_setCell_other _ ⟨w.heap.size + 1, 0, none⟩ D _ hdn).trans HDf.out)
    refine ⟨by simp, .inl ⟨_, _, rfl, run_takeDeferred HD2.out, ?_⟩⟩
    have q0 := (HR.out.putObj (.deferred none) HD2.out rfl).c 0 rfl
    refine ⟨.bool true, by simp [results, Tryz.results52, go_sem, q0], ?_⟩
    refine ⟨?_, (HI2.out.setCell (p := ⟨w.heap.size + 1, 0, none⟩) (by show w.heap.size ≤ w.heap.size + 1; omega) _).trans (belowK_b (w := w) (Nat.le_refl _) _ D _ _ (by have := HS0.out; omega) HD2.out rfl rfl)⟩
    have e1 := HL.out
    have e2 := HL2.out
    have e3 := HI0.out
    simp only [Fo.deep, Fo.cnt] at e1 e2
    rw [decide_eq_true (by omega)]
  · rintro D cc pre W hD ⟨xs, q, hS, hq⟩ ⟨⟨⟨rfl, i0⟩, i1⟩, i2⟩ hDf
    have HI0 := Lib.hid i0
    have HI1 := Lib.hid i1
    have HI2 := Lib.hid i2
    have HDf := Lib.hid hDf
    have HL := Lib.hid (fl_deep hS)
    have HL2 := Lib.hid (fl_len hS)
    have HQ := Lib.hid hq
    clear i0 i1 i2 hDf hS hq a0 a1 a2 a3 hB0
    gi_wp2
    refine ⟨by simp, .inl ⟨_, _, rfl, run_takeDeferred HDf.out, ?_⟩⟩
    have q0 := (HI1.out.putObj (.deferred none) HDf.out rfl).c 0 rfl
    refine ⟨.bool false, by simp [results, Tryz.results52, go_sem, q0], ?_⟩
    refine ⟨?_, HI2.out.trans (belowK_b (w := w) (Nat.le_refl _) _ D _ _ (by have := HS0.out; omega) HDf.out rfl rfl)⟩
    have e1 := HL.out
    have e2 := HL2.out
    have e3 := HI0.out
    have e4 := HQ.out
    have e5 : dmx xs = max (dmx pre) (dmx q) := by rw [e4, dmx_app]
    have e6 : xs.length = pre.length + q.length := by rw [e4, List.length_append]
    simp only [Fo.deep, Fo.cnt] at e1 e2
    rw [decide_eq_false (by omega)]
end Go.Proofs.YtppapkpceejnkaaGreatDoor
