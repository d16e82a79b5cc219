/- The writer's parts, by a node's kind; item. The program's own: item. -/
import Derived.Test.YtppapkpceejnkaaGreatDoorKu
import Derived.Test.YtppapkpceejnkaaGreatDoorKv
import Derived.Test.YtppapkpceejnkaaGreatDoorK9
import Derived.Deep.RegionHeld3
namespace Go.Proofs.YtppapkpceejnkaaGreatDoor
open Go.RowKit

attribute [local go_sem] Oper.semAt_some

def partCF (a : Int) : Nat := if a = 1 then 107 else if a = 2 then 108 else if a = 3 then 109 else if a = 4 then 110 else if a = 5 then 111 else if a = 6 then 112 else if a = 7 then 113 else if a = 8 then 114 else if a = 9 then 115 else 116
def partCI (a : Int) : Nat := if a = 1 then 0 else if a = 2 then 1 else if a = 3 then 2 else if a = 4 then 3 else if a = 5 then 4 else if a = 6 then 5 else if a = 7 then 6 else if a = 8 then 7 else if a = 9 then 8 else 9
def isCP (a : Int) : Prop := a = 1 ∨ a = 2 ∨ a = 3 ∨ a = 4 ∨ a = 5 ∨ a = 6 ∨ a = 7 ∨ a = 8 ∨ a = 9 ∨ a = 10
theorem findC {b : Nat} {a : Int} (h : isCP a) : Instr.findNow (.int .i64) (.int .i64 a) (partsC b 10).toList 0 = some (some (partCI a, .func (.func (partCF a)) #[.pointer (some ⟨b, 0, none⟩)] #[])) := by
  rcases h with rfl | rfl | rfl | rfl | rfl | rfl | rfl | rfl | rfl | rfl <;> rfl
theorem run_partC {W : World} {b M : Nat} {a : Int} (hb : W.heap[M]? = some (.map (partsC b 10) 10)) (h : isCP a) :
    (Instr.lookup 135 (.map (some M)) (.int .i64 a) false).run Tryz.prog W = .ok (.func (.func (partCF a)) #[.pointer (some ⟨b, 0, none⟩)] #[]) W := by
  have hk : MapKept.IsKey (.int .i64) (.int .i64 a) := rfl
  simp [Instr.lookup, run_underlying Tryz.underlying135, MapKept.run_getObj_map hb, MapKept.run_checkKey Tryz.underlying3 hk, MapKept.run_findKey Tryz.underlying3 (findC h), Result.andThen]
theorem enters_partC {a : Int} (h : isCP a) : ∀ args w, (callFunc (partCF a) args).run Tryz.prog w = .ok (.enter (partCF a) args) w := by
  rcases h with rfl | rfl | rfl | rfl | rfl | rfl | rfl | rfl | rfl | rfl
  · exact enters_of Tryz.func107 (by kernel_rfl) rfl
  · exact enters_of Tryz.func108 (by kernel_rfl) rfl
  · exact enters_of Tryz.func109 (by kernel_rfl) rfl
  · exact enters_of Tryz.func110 (by kernel_rfl) rfl
  · exact enters_of Tryz.func111 (by kernel_rfl) rfl
  · exact enters_of Tryz.func112 (by kernel_rfl) rfl
  · exact enters_of Tryz.func113 (by kernel_rfl) rfl
  · exact enters_of Tryz.func114 (by kernel_rfl) rfl
  · exact enters_of Tryz.func115 (by kernel_rfl) rfl
  · exact enters_of Tryz.func116 (by kernel_rfl) rfl
theorem pCF_1 : partCF 1 = 107 := by kernel_rfl
theorem pCF_2 : partCF 2 = 108 := by kernel_rfl
theorem pCF_3 : partCF 3 = 109 := by kernel_rfl
theorem pCF_4 : partCF 4 = 110 := by kernel_rfl
theorem pCF_5 : partCF 5 = 111 := by kernel_rfl
theorem pCF_6 : partCF 6 = 112 := by kernel_rfl
theorem pCF_7 : partCF 7 = 113 := by kernel_rfl
theorem pCF_8 : partCF 8 = 114 := by kernel_rfl
theorem pCF_9 : partCF 9 = 115 := by kernel_rfl
theorem pCF_10 : partCF 10 = 116 := by kernel_rfl
def arB (l : List UInt8) : ByteArray := ⟨l.toArray⟩
theorem arB_size (l : List UInt8) : (arB l).size = l.length := by show (List.toArray l).size = _; simp
theorem arB_app (a b : List UInt8) : arB (a ++ b) = arB a ++ arB b := str_inj (by rw [app_data]; simp [arB])
section
variable {w0 W : World} {b M : Nat} {t : ByteArray}
theorem partC_calls {h : Hd} {k : Fo} {A : Option Addr} {c : Nat} (hg : Gc h k) (hT : SizT w0) (hE : ErrR w0) (hw : Wk w0 b M t W) (hlen : t.size ≤ 10000000000) :
    Calls Tryz.prog (partCF h.kind) #[.pointer (some ⟨b, 0, none⟩), .agg (h.cells (.slice A k.len c))] W (PutC w0 b M (t ++ arB (ownB h k.len)) W) := by
  obtain ⟨⟨h1, h10⟩, ho, hu, hl, hi⟩ := hg
  have hkd : h.kind = 1 ∨ h.kind = 2 ∨ h.kind = 3 ∨ h.kind = 4 ∨ h.kind = 5 ∨ h.kind = 6 ∨ h.kind = 7 ∨ h.kind = 8 ∨ h.kind = 9 ∨ h.kind = 10 := by omega
  rcases hkd with e | e | e | e | e | e | e | e | e | e
  · rw [show arB (ownB h k.len) = headB 7 22 by rw [ownB, if_pos e]; rfl, e, pCF_1]
    exact nullC_calls h A k.len c hT hw (by omega)
  · rw [show arB (ownB h k.len) = headB 7 (if h.b then 21 else 20) by rw [ownB, if_neg (by omega), if_pos e]; rfl, e, pCF_2]
    exact truthC_calls h A k.len c hT hw (by omega)
  · obtain ⟨a, m, ht⟩ := hi e
    obtain ⟨rfl, hm, _, hp⟩ := make_of (is_3 e ho).2 ht
    have hb : arB (ownB h k.len) = if h.neg then headB 1 (m - 1) else headB 0 m := by
      rw [ownB, if_neg (by omega), if_neg (by omega), if_pos e, ht]
      show arB (if h.neg = true then headL 1 (m - 1) else headL 0 m) = _
      split <;> rfl
    rw [hb, e, pCF_3]
    exact numberC_calls h A k.len c m ht hm hp hT hE hw (by omega)
  · have hw4 := (is_4 e ho).2
    have hb : arB (ownB h k.len) = arB [UInt8.ofNat (32 * 7 + flI h.w)] ++ bitB (h.w.toNat / 8) h.u := by
      rw [ownB, if_neg (by omega), if_neg (by omega), if_neg (by omega), if_pos e]
      exact arB_app [UInt8.ofNat (32 * 7 + flI h.w)] (bigL (h.w.toNat / 8) h.u)
    rw [hb, ← ByteArray.append_assoc, e, pCF_4]
    obtain ⟨kd, bb, neg, dig, exp, u, wd, s⟩ := h
    have hw5 : wd = 16 ∨ wd = 32 ∨ wd = 64 := by
      show _
      unfold widO at hw4
      dsimp only at hw4
      repeat' split at hw4
      all_goals first
        | (exact .inl (by assumption))
        | (exact .inr (.inl (by assumption)))
        | (exact .inr (.inr (by assumption)))
        | (cases hw4; done)
    dsimp only
    rcases hw5 with rfl | rfl | rfl
    · have := flo16_calls kd bb neg dig exp u s A k.len c hw (by omega)
      rw [show flI 16 = 25 from rfl, show ((16 : Int).toNat / 8) = 2 from rfl]
      exact this
    · have := flo32_calls kd bb neg dig exp u s A k.len c hw (by omega)
      rw [show flI 32 = 26 from rfl, show ((32 : Int).toNat / 8) = 4 from rfl]
      exact this
    · have := flo64_calls kd bb neg dig exp u s A k.len c hw (by omega)
      rw [show flI 64 = 27 from rfl, show ((64 : Int).toNat / 8) = 8 from rfl]
      exact this
  · have hs := (is_5 e ho).2
    have hb : arB (ownB h k.len) = headB 3 h.s.size ++ h.s := by
      rw [ownB, if_neg (by omega), if_neg (by omega), if_neg (by omega), if_neg (by omega), if_pos e, arB_app]
      rfl
    rw [hb, ← ByteArray.append_assoc, e, pCF_5]
    exact textC_calls h A k.len c hs hT hw (by omega)
  · have hs := (is_6 e ho).2
    have hb : arB (ownB h k.len) = headB 2 h.s.size ++ h.s := by
      rw [ownB, if_neg (by omega), if_neg (by omega), if_neg (by omega), if_neg (by omega), if_neg (by omega), if_pos e, arB_app]
      rfl
    rw [hb, ← ByteArray.append_assoc, e, pCF_6]
    exact bytesC_calls h A k.len c hs hT hw (by omega)
  · rw [show arB (ownB h k.len) = headB 4 k.len by rw [ownB, if_neg (by omega), if_neg (by omega), if_neg (by omega), if_neg (by omega), if_neg (by omega), if_neg (by omega), if_pos e]; rfl, e, pCF_7]
    exact arrayC_calls h A k.len c (by omega) hT hw (by omega)
  · rw [show arB (ownB h k.len) = headB 5 (k.len / 2) by rw [ownB, if_neg (by omega), if_neg (by omega), if_neg (by omega), if_neg (by omega), if_neg (by omega), if_neg (by omega), if_neg (by omega), if_pos e]; rfl, e, pCF_8]
    exact membersC_calls h A k.len c (by omega) hT hw (by omega)
  · rw [show arB (ownB h k.len) = headB 6 h.u by rw [ownB, if_neg (by omega), if_neg (by omega), if_neg (by omega), if_neg (by omega), if_neg (by omega), if_neg (by omega), if_neg (by omega), if_neg (by omega), if_pos e]; rfl, e, pCF_9]
    exact tagC_calls h A k.len c hu hT hw (by omega)
  · rw [show arB (ownB h k.len) = headB 7 h.u by rw [ownB, if_neg (by omega), if_neg (by omega), if_neg (by omega), if_neg (by omega), if_neg (by omega), if_neg (by omega), if_neg (by omega), if_neg (by omega), if_neg (by omega)]; rfl, e, pCF_10]
    exact simpleC_calls h A k.len c hu hT hw (by omega)
end
/-- The bytes of nodes that have come. -/
def bytN {w0 : World} : List (Nc w0) → List UInt8
  | [] => []
  | x :: xs => ownB x.1.h x.1.k.len ++ bytN xs
section
variable {w0 : World}
theorem bytN_app : ∀ (xs ys : List (Nc w0)), bytN (xs ++ ys) = bytN xs ++ bytN ys
  | [], _ => rfl
  | x :: xs, ys => by rw [List.cons_append, bytN, bytN, bytN_app xs ys, List.append_assoc]
theorem bytN_le : ∀ (xs : List (Nc w0)), (bytN xs).length ≤ 409 * xs.length
  | [] => Nat.le_refl _
  | x :: xs => by
    have h1 := ownB_le x.2.2.2.2 x.1.k.len
    have h2 := bytN_le xs
    rw [bytN, List.length_append, List.length_cons]
    omega
theorem fl_byt : ∀ {f : Fo} {d : Nat} {xs : List (Nc w0)}, Fl f d xs → bytN xs = plB f
  | .nil, _, _, h => by cases h; rfl
  | .cons _ _ _, d, _, ⟨x, ys, zs, h1, h2, h3, h4, h5, h6⟩ => by
    rw [h4, bytN, bytN_app, fl_byt h5, fl_byt h6, h2, h3, plB]
end
end Go.Proofs.YtppapkpceejnkaaGreatDoor
namespace Go.Proofs.YtppapkpceejnkaaGreatDoor
open Go.RowKit

attribute [local go_sem] Oper.semAt_some

theorem Wk.grown {w0 A B : World} {b M : Nat} {t : ByteArray} {row : Option Nat} (h : Wk w0 b M t A) (hg : A.grownBy B row)
    (hr : ∀ r, row = some r → w0.heap.size ≤ r ∧ M ≠ r ∧ ∃ o : Obj, A.heap[r]? = some o ∧ o.isCells = false) : Wk w0 b M t B := by
  obtain ⟨hM, p, v, hp, h⟩ := h
  refine ⟨(hg.block M (Array.getElem?_eq_some_iff.1 hM).1 (fun e => (hr M e.symm).2.1 rfl)).trans hM, p, v, hp, h.hb, h.hw.grown hg h.base (fun k e => (hr k e).1), bx_kept h.bx hg (fun r e => (hr r e).2.2), h.own.kept hg ?_⟩
  cases hrow : row with
  | none => cases hv : v.ownBlock <;> simp
  | some r =>
    refine .inr fun e => ?_
    obtain ⟨_, _, o, ho, hc⟩ := hr r hrow
    rcases h.own.2 with ⟨rfl, _⟩ | ⟨g, cap, cur, rfl, _, h2, _⟩
    · cases e
    · rw [← Option.some.inj e] at ho
      rw [show (⟨g, 0, none⟩ : Addr).block = g from rfl, h2] at ho
      cases ho
      cases hc
theorem Wk.m_lt {w0 W : World} {b M : Nat} {t : ByteArray} (h : Wk w0 b M t W) : M < W.heap.size := (Array.getElem?_eq_some_iff.1 h.1).1
theorem Ok.grownFrom {w0 W0 A B : World} {b : Nat} {row : Option Nat} (h : Ok w0 b W0 A) (hw : w0.heap.size ≤ W0.heap.size) (hg : A.grownBy B row) (hr : ∀ r, row = some r → W0.heap.size ≤ r) : Ok w0 b W0 B := by
  refine ⟨h.1.grown hg (Nat.le_trans hw h.2.1) (fun k e => Nat.le_trans hw (hr k e)), Nat.le_trans h.2.1 hg.size, fun k o hk h1 h2 => ?_⟩
  have h3 := h.2.2 k o hk h1 h2
  refine (hg.block k (Array.getElem?_eq_some_iff.1 h3).1 (fun e => ?_)).trans h3
  have h4 := hr k e.symm
  have h5 := (Array.getElem?_eq_some_iff.1 hk).1
  omega
theorem keeps_ok {w0 A B : World} {b M : Nat} {t : ByteArray} (h : Ok w0 b A B) (hw : Wk w0 b M t A) (C : Nat) : KeepsFrom C A B := by
  obtain ⟨_, p, v, _, hx⟩ := hw
  exact ⟨h.2.1, fun k o _ hk ho => h.obj hk (fun e => by subst e; rw [show A.heap[k]? = _ from hx.bx] at hk; cases hk; cases ho) (fun c fz e => by subst e; cases ho)⟩
set_option maxRecDepth 100000 in
set_option maxHeartbeats 4000000 in
theorem itemC_calls {w0 W : World} {b M : Nat} {t : ByteArray} (h : Hd) (k : Fo) (v : Value) (hT : SizT w0) (hE : ErrR w0) (hw : Wk w0 b M t W) (hk : Kd An w0 v k) (hG : AllG Gc (.cons h k .nil)) (hc : k.cnt ≤ 299) (hd : k.deep ≤ 15) (ht : t.size ≤ 1000000) :
    Calls Tryz.prog 71 #[.pointer (some ⟨b, 0, none⟩), .agg (h.cells v)] W (PutC w0 b M (t ++ arB (plB (.cons h k .nil))) W) := by
  obtain ⟨A, c, rfl, _, _, _⟩ := hk.form
  have HT := Lib.hid hT
  have HE := Lib.hid hE
  have HG := Lib.hid hG
  have HK := Lib.hid hk
  have HW := Lib.hid hw
  have hlb := hw.lt
  have hmx : Tryz.prog.follows .mixedOrders = true := by kernel_rfl
  obtain ⟨W0, hW0⟩ : ∃ W0, W0 = (((W.alloc (.cells #[.pointer (some ⟨b, 0, none⟩)] 126)).alloc (.cells (h.cells (.slice A k.len c)) 28)).alloc (.cells (h.cells (.slice A k.len c)) 28)).alloc (.cells #[.slice (some ⟨W.heap.size + 2, 0, none⟩) 1 1] 26) := ⟨_, rfl⟩
  have HB0 : Hid (Below W.heap.size W W0) := Lib.hid (by rw [hW0]; exact below_a (below_a (below_a (below_a (Below.refl _ _) _) _) _) _)
  have HS0 : Hid (W0.heap.size = W.heap.size + 4) := Lib.hid (by rw [hW0]; simp)
  have HP0 : Hid (Bx W0 W.heap.size #[.pointer (some ⟨b, 0, none⟩)] 126) := Lib.hid (by rw [hW0]; exact (((Bx.new W _ _).alloc _).alloc _).alloc _)
  have HN0 : Hid (Nx W0 (W.heap.size + 2) h (.slice A k.len c)) := Lib.hid (by
    rw [hW0]
    have := Bx.new1 (W.alloc (.cells #[.pointer (some ⟨b, 0, none⟩)] 126)) (.cells (h.cells (.slice A k.len c)) 28) (h.cells (.slice A k.len c)) 28
    rw [World.size_alloc] at this
    exact Bx.alloc this _)
  have HL0 : Hid (Bx W0 (W.heap.size + 3) #[.slice (some ⟨W.heap.size + 2, 0, none⟩) 1 1] 26) := Lib.hid (by
    rw [hW0]
    have := Bx.new (((W.alloc (.cells #[.pointer (some ⟨b, 0, none⟩)] 126)).alloc (.cells (h.cells (.slice A k.len c)) 28)).alloc (.cells (h.cells (.slice A k.len c)) 28)) #[.slice (some ⟨W.heap.size + 2, 0, none⟩) 1 1] 26
    rw [World.size_alloc, World.size_alloc, World.size_alloc] at this
    exact this)
  have HW0 : Hid (Wk w0 b M t W0) := Lib.hid (HW.out.below HB0.out)
  have HK0 : Hid (Ok w0 b W W0) := Lib.hid (Ok.of_below HB0.out HW.out.base)
  have HM : Hid (M < W.heap.size) := Lib.hid HW.out.m_lt
  have hsq := throughC_all (w0 := w0) (b := b) ((Fo.cons h k .nil).cnt + 1) (.cons h k .nil) 1 (.slice (some ⟨W.heap.size + 2, 0, none⟩) 1 1) (W.heap.size + 3) W0 (Nat.lt_succ_self _) HL0.out (by omega) (by have := HS0.out; omega) (topK_one (HK.out.mono (Q := fun b => ¬ noX b) (fun _ _ _ h => h)) HG.out.1.2.2.1 HN0.out (by omega)) HG.out (by simp only [Fo.deep]; omega) (HW0.out.hw)
  have HSq := Lib.hid hsq
  have HLb := Lib.hid hlb
  have HCn : Hid ((Fo.cons h k .nil).cnt ≤ 300) := Lib.hid (by simp only [Fo.cnt]; omega)
  clear hsq hT hE hG hk hw hlb hc hd
  refine (callsIn_wide (n := 7)).1 ?_
  refine callsIn_of_wp_marks Tryz.func71 rfl trivial ?_ rfl
  simp only [Tryz.ntmps71, List.size_toArray, List.length_cons, List.length_nil, Nat.reduceAdd, Nat.reduceSub, Array.replicate_succ, Array.replicate_zero, List.push_toArray, List.append_toArray, List.nil_append, List.cons_append]
  simp only [Hd.cells] at hW0 ⊢
  gi_wp2_with (refine ⟨trivial, ?_⟩; gi_at_call 117; refine (callsIn_wide.2 (throughC_calls _ _ _ _)).mono ?_; rintro o w4 ⟨rfl, rfl⟩)
  rw [← hW0]
  clear hW0
  have hI : OwnFrom W0.heap.size (fun (pre : List (Nc w0)) V => (Wk w0 b M (t ++ arB (bytN pre)) V ∧ W0.heap.size ≤ V.heap.size) ∧ Ok w0 b W0 V) := by
    rintro pre X Y row ⟨⟨g1, g2⟩, g3⟩ hg hr
    have hs := HS0.out
    have hb := HW.out.base
    have hm := HM.out
    exact ⟨⟨g1.grown hg (fun r e => ⟨by have := (hr r e).1; omega, by have := (hr r e).1; omega, (hr r e).2⟩), Nat.le_trans g2 hg.size⟩, g3.grownFrom (by omega) hg (fun r e => (hr r e).1)⟩
  refine wpIn_rangeAll rfl (enters_of Tryz.func155 (by kernel_rfl) rfl) HSq.out Kj.trans (fun V l o o' hl h hc => Kj.putObj V l o o' (by have := HS0.out; have := HW.out.base; omega) h hc) (Below.refl _ _) (fun _ => rfl)
    (fun pre V => (Wk w0 b M (t ++ arB (bytN pre)) V ∧ W0.heap.size ≤ V.heap.size) ∧ Ok w0 b W0 V) hI
    ⟨⟨by rw [show arB (bytN ([] : List (Nc w0))) = ⟨#[]⟩ from rfl, cat_e]; exact HW0.out, Nat.le_refl _⟩, Ok.refl⟩
    (fun y a' V => ∃ C, W0.heap.size ≤ C ∧ Nx V C y.1.h y.1.v ∧ a' = { tmps := #[.pointer (some ⟨b, 0, none⟩), .agg #[.int .i64 h.kind, .bool h.b, .bool h.neg, .string h.dig, .int .i64 h.exp, .int .u64 (h.u : Int), .int .i64 h.w, .string h.s, .slice A k.len c], .pointer (some ⟨W.heap.size, 0, none⟩), .pointer (some ⟨W.heap.size + 1, 0, none⟩), .pointer (some ⟨C, 0, none⟩), .agg #[.int .i64 h.kind, .bool h.b, .bool h.neg, .string h.dig, .int .i64 h.exp, .int .u64 (h.u : Int), .int .i64 h.w, .string h.s, .slice A k.len c], .slice (some ⟨W.heap.size + 2, 0, none⟩) 1 1, .func (.func 155) #[] #[.pointer (some ⟨W.heap.size + 3, 0, none⟩)], .agg #[.int .i64 y.1.h.kind, .bool y.1.h.b, .bool y.1.h.neg, .string y.1.h.dig, .int .i64 y.1.h.exp, .int .u64 (y.1.h.u : Int), .int .i64 y.1.h.w, .string y.1.h.s, y.1.v], undef, undef, undef, undef, undef, undef, undef, undef, undef], defers := [] })
    (fun y a' _ _ _ _ hs hg hr => by
      obtain ⟨C, h1, h2, h3⟩ := hs
      exact ⟨C, h1, bx_kept h2 hg (fun r e => (hr r e).2), h3⟩)
    ?_ ?_ ?_
  · intro l' pre y V K hI hK
    have HI := Lib.hid hI
    have HKK := Lib.hid hK
    clear hI hK
    obtain ⟨⟨dy, hy, vy, ky⟩, hky, huy, hdy, hgy⟩ := y
    obtain ⟨Ay, cy, hv, _, _, _⟩ := hky.form
    dsimp only at hv
    subst hv
    simp only [encK, Hd.cells] at HKK ⊢
    gi_wp2
    obtain ⟨⟨i1, i4⟩, i2⟩ := HI.out
    exact HKK.out _ _ ((KeepsOthers.alloc _ _).from _) (Kj.of_below (below_a (Below.refl _ _) _) i1.base) ⟨⟨i1.alloc _, by rw [World.size_alloc]; omega⟩, i2.alloc i1.base _⟩ ⟨V.heap.size, i4, Nx.new V _ _, rfl⟩
  · rintro l' pre y a' V hl' hlo ⟨⟨i1, i4⟩, i2⟩ ⟨C, hC, hx, rfl⟩ hpl
    obtain ⟨⟨dy, hy, vy, ky⟩, hky, huy, hdy, hgy⟩ := y
    obtain ⟨Ay, cy, hv, _, _, _⟩ := hky.form
    dsimp only at hv
    subst hv
    dsimp only at hx ⊢
    have hcp : isCP hy.kind := by
      have := hgy.1
      dsimp only at this
      unfold isCP
      omega
    have hbl := bytN_le pre
    have hcn := HCn.out
    have hsz : (t ++ arB (bytN pre)).size ≤ 10000000000 := by
      rw [ByteArray.size_append, arB_size]
      omega
    have hef := enters_partC hcp
    have hlk := fun (V : World) (hV : V.heap[M]? = some (.map (partsC b 10) 10)) => run_partC hV hcp
    have HP := Lib.hid (fun (V : World) (hV : Wk w0 b M (t ++ arB (bytN pre)) V) => partC_calls (W := V) (A := Ay) (c := cy) hgy HT.out HE.out hV hsz)
    have hby : t ++ arB (bytN (pre ++ [⟨⟨dy, hy, .slice Ay ky.len cy, ky⟩, hky, huy, hdy, hgy⟩])) = t ++ arB (bytN pre) ++ arB (ownB hy ky.len) := by
      rw [bytN_app, arB_app, ByteArray.append_assoc]
      simp only [bytN, List.append_nil]
    have HBy := Lib.hid hby
    obtain ⟨f, hf⟩ : ∃ f, f = partCF hy.kind := ⟨_, rfl⟩
    dsimp only at HP
    rw [← hf] at hef HP
    simp only [← hf] at hlk
    have HLk := Lib.hid hlk
    have hCb : C ≠ b := by have := HS0.out; have := HLb.out; omega
    have HI1 := Lib.hid i1
    have HI2 := Lib.hid i2
    have HX := Lib.hid hx
    have hPb : W.heap.size ≠ b := by have := HLb.out; omega
    have hSv : ∀ V' : World, Wk w0 b M (t ++ arB (bytN pre)) V' → Nx V' C hy (.slice Ay ky.len cy) → Bx V' W.heap.size #[.pointer (some ⟨b, 0, none⟩)] 126 → (fun w' : World => w'.cell? ⟨W.heap.size, 0, none⟩ = some (.pointer (some ⟨b, 0, none⟩)) ∧ w'.cell? ⟨b, 2, none⟩ = some (.map (some M)) ∧ w'.heap[M]? = some (.map (partsC b 10) 10) ∧ w'.cell? ⟨C, 0, none⟩ = some (.int .i64 hy.kind) ∧ w'.cell? ⟨C, 1, none⟩ = some (.bool hy.b) ∧ w'.cell? ⟨C, 2, none⟩ = some (.bool hy.neg) ∧ w'.cell? ⟨C, 3, none⟩ = some (.string hy.dig) ∧ w'.cell? ⟨C, 4, none⟩ = some (.int .i64 hy.exp) ∧ w'.cell? ⟨C, 5, none⟩ = some (.int .u64 (hy.u : Int)) ∧ w'.cell? ⟨C, 6, none⟩ = some (.int .i64 hy.w) ∧ w'.cell? ⟨C, 7, none⟩ = some (.string hy.s) ∧ w'.cell? ⟨C, 8, none⟩ = some (.slice Ay ky.len cy)) V' := fun V' h1 h2 h3 => by
      obtain ⟨hm, p, vv, _, hw5⟩ := h1
      exact ⟨h3.c 0 rfl, hw5.bx.c 2 rfl, hm, h2.nine⟩
    have hSw : ∀ (V' : World) (t' : ByteArray), Wk w0 b M t' V' → Nx V' C hy (.slice Ay ky.len cy) → Bx V' W.heap.size #[.pointer (some ⟨b, 0, none⟩)] 126 → (fun w' : World => w'.cell? ⟨W.heap.size, 0, none⟩ = some (.pointer (some ⟨b, 0, none⟩)) ∧ w'.cell? ⟨b, 2, none⟩ = some (.map (some M)) ∧ w'.heap[M]? = some (.map (partsC b 10) 10) ∧ w'.cell? ⟨C, 0, none⟩ = some (.int .i64 hy.kind) ∧ w'.cell? ⟨C, 1, none⟩ = some (.bool hy.b) ∧ w'.cell? ⟨C, 2, none⟩ = some (.bool hy.neg) ∧ w'.cell? ⟨C, 3, none⟩ = some (.string hy.dig) ∧ w'.cell? ⟨C, 4, none⟩ = some (.int .i64 hy.exp) ∧ w'.cell? ⟨C, 5, none⟩ = some (.int .u64 (hy.u : Int)) ∧ w'.cell? ⟨C, 6, none⟩ = some (.int .i64 hy.w) ∧ w'.cell? ⟨C, 7, none⟩ = some (.string hy.s) ∧ w'.cell? ⟨C, 8, none⟩ = some (.slice Ay ky.len cy)) V' := fun V' t' h1 h2 h3 => by
      obtain ⟨hm, p, vv, _, hw5⟩ := h1
      exact ⟨h3.c 0 rfl, hw5.bx.c 2 rfl, hm, h2.nine⟩
    have HSw := Lib.hid hSw
    have hPV : Bx V W.heap.size #[.pointer (some ⟨b, 0, none⟩)] 126 := i2.bx HP0.out hPb (by decide)
    have HPV := Lib.hid hPV
    clear i1 i2 hx hlo hf hlk hby hsz hbl hcn hpl hcp hSv hSw hPV
    gi_wp2
    refine region_round hmx (by kernel_rfl) (by rintro ⟨_, _, h⟩; cases h.1) ?_
    refine wpAny_of_held (S := fun w' => w'.cell? ⟨W.heap.size, 0, none⟩ = some (.pointer (some ⟨b, 0, none⟩)) ∧ w'.cell? ⟨b, 2, none⟩ = some (.map (some M)) ∧ w'.heap[M]? = some (.map (partsC b 10) 10) ∧ w'.cell? ⟨C, 0, none⟩ = some (.int .i64 hy.kind) ∧ w'.cell? ⟨C, 1, none⟩ = some (.bool hy.b) ∧ w'.cell? ⟨C, 2, none⟩ = some (.bool hy.neg) ∧ w'.cell? ⟨C, 3, none⟩ = some (.string hy.dig) ∧ w'.cell? ⟨C, 4, none⟩ = some (.int .i64 hy.exp) ∧ w'.cell? ⟨C, 5, none⟩ = some (.int .u64 (hy.u : Int)) ∧ w'.cell? ⟨C, 6, none⟩ = some (.int .i64 hy.w) ∧ w'.cell? ⟨C, 7, none⟩ = some (.string hy.s) ∧ w'.cell? ⟨C, 8, none⟩ = some (.slice Ay ky.len cy)) _ _ _ _ ?_
    have hHeld : (fun w' : World => w'.cell? ⟨W.heap.size, 0, none⟩ = some (.pointer (some ⟨b, 0, none⟩)) ∧ w'.cell? ⟨b, 2, none⟩ = some (.map (some M)) ∧ w'.heap[M]? = some (.map (partsC b 10) 10) ∧ w'.cell? ⟨C, 0, none⟩ = some (.int .i64 hy.kind) ∧ w'.cell? ⟨C, 1, none⟩ = some (.bool hy.b) ∧ w'.cell? ⟨C, 2, none⟩ = some (.bool hy.neg) ∧ w'.cell? ⟨C, 3, none⟩ = some (.string hy.dig) ∧ w'.cell? ⟨C, 4, none⟩ = some (.int .i64 hy.exp) ∧ w'.cell? ⟨C, 5, none⟩ = some (.int .u64 (hy.u : Int)) ∧ w'.cell? ⟨C, 6, none⟩ = some (.int .i64 hy.w) ∧ w'.cell? ⟨C, 7, none⟩ = some (.string hy.s) ∧ w'.cell? ⟨C, 8, none⟩ = some (.slice Ay ky.len cy)) V.drew := HSw.out V.drew _ HI1.out.drew HX.out HPV.out
    dsimp only at hHeld
    obtain ⟨V1, hV1⟩ : ∃ V1, V1 = V.drew := ⟨_, rfl⟩
    have HV1 : Hid (Wk w0 b M (t ++ arB (bytN pre)) V1) := Lib.hid (by rw [hV1]; exact HI1.out.drew)
    have HO1 : Hid (Ok w0 b V V1) := Lib.hid (by rw [hV1]; exact (Ok.refl (b := b)).drew)
    rw [← hV1] at hHeld ⊢
    clear hV1
    refine wpAnyH_take (i := 0) (v := .pointer (some ⟨b, 0, none⟩)) rfl (by kernel_rfl) (by kernel_rfl) (by kernel_rfl) (fun _ _ _ h => h) (Or.inl ⟨by rfl, by rintro w ⟨g0, g1, g2, g3, g4, g5, g6, g7, g8, g9, g10, g11⟩; go_simp⟩) hHeld ?_
    refine wpAnyH_take (i := 1) (v := .pointer (some ⟨b, 0, none⟩)) rfl (by kernel_rfl) (by kernel_rfl) (by kernel_rfl) (fun _ _ _ h => h) (Or.inl ⟨by rfl, by rintro w ⟨g0, g1, g2, g3, g4, g5, g6, g7, g8, g9, g10, g11⟩; go_simp⟩) hHeld ?_
    refine wpAnyH_take (i := 2) (v := .pointer (some ⟨b, 2, none⟩)) rfl (by kernel_rfl) (by kernel_rfl) (by kernel_rfl) (fun _ _ _ h => h) (Or.inl ⟨by rfl, by rintro w ⟨g0, g1, g2, g3, g4, g5, g6, g7, g8, g9, g10, g11⟩; go_simp⟩) hHeld ?_
    refine wpAnyH_take (i := 3) (v := .map (some M)) rfl (by kernel_rfl) (by kernel_rfl) (by kernel_rfl) (fun _ _ _ h => h) (Or.inl ⟨by rfl, by rintro w ⟨g0, g1, g2, g3, g4, g5, g6, g7, g8, g9, g10, g11⟩; go_simp⟩) hHeld ?_
    refine wpAnyH_take (i := 4) (v := .pointer (some ⟨C, 0, none⟩)) rfl (by kernel_rfl) (by kernel_rfl) (by kernel_rfl) (fun _ _ _ h => h) (Or.inl ⟨by rfl, by rintro w ⟨g0, g1, g2, g3, g4, g5, g6, g7, g8, g9, g10, g11⟩; go_simp⟩) hHeld ?_
    refine wpAnyH_take (i := 5) (v := .int .i64 hy.kind) rfl (by kernel_rfl) (by kernel_rfl) (by kernel_rfl) (fun _ _ _ h => h) (Or.inl ⟨by rfl, by rintro w ⟨g0, g1, g2, g3, g4, g5, g6, g7, g8, g9, g10, g11⟩; go_simp⟩) hHeld ?_
    refine wpAnyH_take (i := 6) (v := .func (.func f) #[.pointer (some ⟨b, 0, none⟩)] #[]) rfl (by kernel_rfl) (by kernel_rfl) (by kernel_rfl) (fun _ _ _ h => h) (Or.inl ⟨by rfl, by rintro w ⟨g0, g1, g2, g3, g4, g5, g6, g7, g8, g9, g10, g11⟩; have hl := HLk.out w g2; go_simp⟩) hHeld ?_
    refine wpAnyH_take (i := 7) (v := .agg #[.int .i64 hy.kind, .bool hy.b, .bool hy.neg, .string hy.dig, .int .i64 hy.exp, .int .u64 (hy.u : Int), .int .i64 hy.w, .string hy.s, .slice Ay ky.len cy]) rfl (by kernel_rfl) (by kernel_rfl) (by kernel_rfl) (fun _ _ _ h => h) (Or.inl ⟨by rfl, by rintro w ⟨g0, g1, g2, g3, g4, g5, g6, g7, g8, g9, g10, g11⟩; go_simp⟩) hHeld ?_
    refine wpAnyH_ready (rs := [8]) (by kernel_rfl) (by simp) ?_
    refine AllReadyH.cons rfl (fun K hK => ?_) AllReadyH.nil
    go_simp
    refine (HP.out _ HV1.out).mono ?_
    rintro o w3 ⟨rfl, h3, hk3⟩
    have H3 := Lib.hid h3
    have HO3 : Hid (Ok w0 b V w3) := Lib.hid (HO1.out.trans hk3)
    clear h3 hk3
    refine hK.out _ _ (HSw.out w3 _ H3.out (HO3.out.bx HX.out hCb (by decide)) (HO3.out.bx HPV.out hPb (by decide))) (fun hHeld => ?_)
    clear hK K
    refine wpAnyH_done (by kernel_rfl) ?_ _
    clear hHeld
    exact ⟨rfl, keeps_ok HO3.out HI1.out _, Kj.of_ok HO3.out, ⟨by rw [HBy.out]; exact H3.out, Nat.le_trans i4 HO3.out.2.1⟩, HI2.out.trans HO3.out⟩
  · rintro D ys V hD hS ⟨⟨i1, i4⟩, i2⟩ hdf
    have hb : t ++ arB (bytN ys) = t ++ arB (plB (.cons h k .nil)) := by rw [fl_byt hS]
    rw [hb] at i1
    have hs := HS0.out
    have hbs := HW.out.base
    have hm := HM.out
    have H1 : Hid (Wk w0 b M (t ++ arB (plB (.cons h k .nil))) (V.putObj D (.deferred none))) := Lib.hid (i1.grown (grownBy_putObj' V D _) (fun r e => by cases e; exact ⟨by omega, by omega, _, hdf, rfl⟩))
    have H2 : Hid (Ok w0 b W (V.putObj D (.deferred none))) := Lib.hid (HK0.out.trans (i2.grownFrom (by omega) (grownBy_putObj' V D _) (fun r e => by cases e; omega)))
    have HD := Lib.hid hdf
    clear i1 i2 hdf hb hS hs hbs hm
    gi_wp2
    refine ⟨by simp, .inl ⟨_, _, rfl, run_takeDeferred HD.out, ?_⟩⟩
    exact ⟨_, results_none rfl _ _ _, rfl, H1.out, H2.out⟩
end Go.Proofs.YtppapkpceejnkaaGreatDoor
