/- What writes a list. -/
import Derived.Test.YtomociaidccfmaaGreatDoorJ5
import Derived.Test.YtomociaidccfmaaGreatDoorMm
namespace Go.Proofs.YtomociaidccfmaaGreatDoor
open Go.RowKit

attribute [local go_sem] Oper.semAt_some

/-- What is written of nodes that have come. -/
def allB (L : Lay) (i : Nat) (m : Bool) {f : Fo} {w0 : World} : List (Nj f w0) → ByteArray
  | [] => ⟨#[]⟩
  | x :: xs => itB L i m f.len x.1.j x.1.h x.1.k ++ allB L i m xs
section
variable {f : Fo} {w0 : World} {L : Lay} {i : Nat} {m : Bool}
theorem allB_app : ∀ (xs ys : List (Nj f w0)), allB L i m (xs ++ ys) = allB L i m xs ++ allB L i m ys
  | [], _ => (e_app _).symm
  | x :: xs, ys => by rw [List.cons_append, allB, allB, allB_app xs ys, ByteArray.append_assoc]
theorem allB_one (x : Nj f w0) : allB L i m [x] = itB L i m f.len x.1.j x.1.h x.1.k := by rw [allB, allB, app_e]
theorem allB_all : ∀ (xs : List (Nj f w0)) (a : Nat), xs.map (·.1.j) = List.range' a xs.length → a + xs.length = f.len → allB L i m xs = docs L (f.drop a) i m (a % 2 == 1)
  | [], a, _, h => by
    rw [show a = f.len by simpa using h, drop_end]
    rfl
  | x :: xs, a, hx, h => by
    simp only [List.map_cons, List.length_cons, List.range'_succ, List.cons.injEq] at hx
    obtain ⟨r, hr⟩ := x.2.1
    rw [hx.1] at hr
    rw [docs_drop L f i m a hr, allB, hx.1, allB_all xs (a + 1) hx.2 (by rw [List.length_cons] at h; omega)]
theorem it_size (x : Nj f w0) : (itB L i m f.len x.1.j x.1.h x.1.k).size ≤ (docs L f i m false).size := by
  obtain ⟨r, hr⟩ := x.2.1
  have := itB_le L f i m f.len x.1.j 0 hr (by omega)
  rwa [Nat.zero_add] at this
theorem allB_le {Z : Nat} (hZ : (docs L f i m false).size ≤ Z) : ∀ (xs : List (Nj f w0)), (allB L i m xs).size ≤ xs.length * Z
  | [] => Nat.zero_le _
  | x :: xs => by
    have h1 := it_size (L := L) (i := i) (m := m) x
    have h2 := allB_le hZ xs
    rw [allB, ByteArray.size_append, List.length_cons, Nat.succ_mul]
    omega
end
/-- A writer lies as it lay when blocks that are none of its have turned. -/
theorem Wp.grown {w0 A B : World} {b : Nat} {p v : Value} {L : Lay} {i : Int} {m : Value} {t : ByteArray} {row : Option Nat} (h : Wp w0 b p v L i m t A) (hg : A.grownBy B row)
    (hr : ∀ r, row = some r → w0.heap.size ≤ r ∧ ∃ o : Obj, A.heap[r]? = some o ∧ o.isCells = false) : Wp w0 b p v L i m t B := by
  refine ⟨h.hb, h.hw.grown hg h.base (fun k e => (hr k e).1), bx_kept h.bx hg (fun r e => (hr r e).2), h.own.kept hg ?_⟩
  cases hrow : row with
  | none => cases hv : v.ownBlock <;> simp
  | some r =>
    refine .inr fun e => ?_
    obtain ⟨_, o, ho, hc⟩ := hr r hrow
    rcases h.own.2 with ⟨rfl, _⟩ | ⟨g, cap, cur, rfl, _, h2, _⟩
    · cases e
    · rw [← Option.some.inj e] at ho
      rw [show (⟨g, 0, none⟩ : Addr).block = g from rfl, h2] at ho
      cases ho
      cases hc
theorem ownFrom_wp {β : Type} {w0 : World} {b M B : Nat} {L : Lay} {i : Int} (f : β → ByteArray) (hB : w0.heap.size ≤ B) : OwnFrom B (fun (s : β) W => ∃ p v, (p = .pointer none ∨ p = .pointer (some ⟨b, 0, none⟩)) ∧ Wp w0 b p v L i (.map (some M)) (f s) W) := by
  rintro s X Y row ⟨p, v, hp, h⟩ hg hr
  exact ⟨p, v, hp, h.grown hg (fun r e => ⟨Nat.le_trans hB (hr r e).1, (hr r e).2⟩)⟩
theorem ownFrom_ok {β : Type} {w0 W0 : World} {b B : Nat} (hB : w0.heap.size ≤ B) (hw : w0.heap.size ≤ W0.heap.size) (h0 : W0.heap.size ≤ B) : OwnFrom B (fun (_ : β) W => Ok w0 b W0 W) := by
  rintro _ X Y row h hg hr
  refine ⟨h.1.grown hg (Nat.le_trans hw h.2.1) (fun k e => Nat.le_trans hB (hr k e).1), Nat.le_trans h.2.1 hg.size, fun k o hk h1 h2 => ?_⟩
  have h3 := h.2.2 k o hk h1 h2
  refine (hg.block k (Array.getElem?_eq_some_iff.1 h3).1 (fun e => ?_)).trans h3
  have h4 := (hr k e.symm).1
  have h5 := (Array.getElem?_eq_some_iff.1 hk).1
  omega
theorem ok_keepsFrom {w0 A B : World} {b : Nat} {cs : Array Value} {T : TypeId} (h : Ok w0 b A B) (hb : Bx A b cs T) (C : Nat) : KeepsFrom C A B :=
  ⟨h.2.1, fun k o _ hk ho => h.obj hk (fun e => by subst e; rw [show A.heap[k]? = _ from hb] at hk; cases hk; cases ho) (fun c fz e => by subst e; cases ho)⟩
/-- What node does, of trees of fewer nodes. -/
def NodeOk (w0 : World) (b M : Nat) (L : Lay) (Z n : Nat) : Prop :=
  ∀ (h : Hd) (k : Fo) (v : Value) (i : Nat) (t : ByteArray) (W : World), k.cnt < n → Wr w0 b M L i t W → Kd An w0 v k → h.u < 18446744073709551616 → AllG Gj (.cons h k .nil) → (nodeB L i h k).size ≤ Z → t.size + (k.deep + 2) * (302 * Z + 300) ≤ 1000000000000 → i + k.deep ≤ 40 →
    Calls Tryz.prog 18 #[.pointer (some ⟨b, 0, none⟩), .agg (h.cells v)] W (PutP w0 b M L i (t ++ nodeB L i h k) W)
/-- A deferred call, at the door. -/
theorem door_both {f : FuncId} {fn : Func} {tmps : Array Value} {R : Ending → World → Prop} {n : Nat} {ds : List Deferred} {args : Array Value} {w : World} {P : Ending → World → Prop} (hf : ∀ args w, (callFunc f args).run Tryz.prog w = .ok (.enter f args) w) (h : Both f args w P)
    (hP : ∀ o w', P o w' → o = .returned (.tuple #[]) ∧ LeavesInM Fence.wide n Tryz.prog fn tmps R ds .returning w') : LeavesInM Fence.wide n Tryz.prog fn tmps R ({ target := .fn (.func f) #[], args := args } :: ds) .returning w := by
  refine ⟨by simp, .inr ⟨fun h => by simp [Fence.wide] at h, .func f, #[], f, args, rfl, ?_, fun _ _ => trivial, ?_⟩⟩
  · simp [invoke, go_sem, hf]
  · refine CallsDIn.mono (h.2 (n - 1) .returning) ?_
    rintro e u' w' ⟨rfl, hp⟩
    obtain ⟨rfl, hl⟩ := hP _ _ hp
    exact hl
theorem door_mark {fn : Func} {tmps : Array Value} {R : Ending → World → Prop} {n : Nat} {ds : List Deferred} {w : World} {D : Nat} (hD : w.heap[D]? = some (.deferred (some [])))
    (h : LeavesInM Fence.wide n Tryz.prog fn tmps R ds .returning (w.putObj D (.deferred none))) : LeavesInM Fence.wide n Tryz.prog fn tmps R ({ target := .collected D, args := #[] } :: ds) .returning w :=
  ⟨by simp, .inl ⟨_, _, rfl, run_takeDeferred hD, h⟩⟩
theorem enters_put : ∀ args w, (callFunc 51 args).run Tryz.prog w = .ok (.enter 51 args) w := enters_of Tryz.func51 (by kernel_rfl) rfl
theorem enters_line : ∀ args w, (callFunc 87 args).run Tryz.prog w = .ok (.enter 87 args) w := enters_of Tryz.func87 (by kernel_rfl) rfl
set_option maxRecDepth 100000 in
set_option maxHeartbeats 400000 in
theorem list_calls {w0 : World} {b M : Nat} {L : Lay} {Z n : Nat} (hL : L.ok) (hN : NodeOk w0 b M L Z n) (f : Fo) (v : Value) (i : Nat) (t : ByteArray) (beg fin : ByteArray) (m : Bool) (S : Nat) (W : World)
    (hc : f.cnt ≤ n) (h : Wr w0 b M L i t W) (hk : Kd An w0 v f) (hG : AllG Gj f) (hlen : f.len ≤ 300) (h1 : beg.size = 1) (h2 : fin.size = 1) (hS : Bx W S (marksC m) 9) (hSb : S ≠ b)
    (hZ : (docs L f (i + 1) m false).size ≤ Z) (ht : t.size + (f.deep + 1) * (302 * Z + 300) + 302 * Z + 299 ≤ 1000000000000) (hi : i + f.deep ≤ 40) :
    Calls Tryz.prog 54 #[.pointer (some ⟨b, 0, none⟩), v, .string beg, .string fin, .slice (some ⟨S, 0, none⟩) (marksN m) (marksN m)] W (PutP w0 b M L i (t ++ (beg ++ innB L i f.isNil (docs L f (i + 1) m false) ++ fin)) W) := by
  obtain ⟨A, c, rfl, _, _, _⟩ := hk.form
  have HN := Lib.hid hN
  have H := Lib.hid h
  have HK := Lib.hid hk
  have HG := Lib.hid hG
  have HLo := Lib.hid hL
  have HS := Lib.hid hS
  have HZ := Lib.hid hZ
  have HT := Lib.hid ht
  have HI := Lib.hid hi
  have hlt := h.lt
  have hba := h.base
  have h1i := h1
  have hmx : Tryz.prog.follows .mixedOrders = true := by kernel_rfl
  have ht1 : t.size ≤ 1000000000000 := by omega
  have HT1 := Lib.hid ht1
  clear hN h hk hG hL hZ ht hi ht1
  refine (callsIn_wide (n := 5)).1 ?_
  refine callsIn_of_wp_marks Tryz.func54 rfl trivial ?_ rfl
  simp only [Tryz.ntmps54, List.size_toArray, List.length_cons, List.length_nil, Nat.reduceAdd, Nat.reduceSub, Array.replicate_succ, Array.replicate_zero, List.push_toArray, List.append_toArray, List.nil_append, List.cons_append]
  have H1 := Lib.hid (H.out.alloc (.cells #[.pointer (some ⟨b, 0, none⟩)] 43))
  have HX1 := Lib.hid (Bx.new W #[.pointer (some ⟨b, 0, none⟩)] 43)
  have HK1 := Lib.hid (Ok.refl.alloc (b := b) hba (.cells #[.pointer (some ⟨b, 0, none⟩)] 43))
  have HS1 := Lib.hid (hS.alloc (.cells #[.pointer (some ⟨b, 0, none⟩)] 43))
  have HB5 : Hid (W.heap.size ≠ b ∧ w0.heap.size ≤ W.heap.size) := Lib.hid ⟨by omega, by omega⟩
  have c5 := HX1.out.c 0 rfl
  gi_wp2_with fail
  refine scope_in ?_
  clear hlt hba
  gi_wp2_with fail
  refine ⟨trivial, (callsIn_wide (n := _)).2 ?_⟩
  refine ((put1_both beg _ (H1.out.alloc _) (Bx.new1 _ _ _ _) (by have := HT1.out; omega)).1).mono ?_
  rintro o w2 ⟨rfl, h2, hk2⟩
  have H2 := Lib.hid h2
  have HX2 := Lib.hid (hk2.bx (HX1.out.alloc _) HB5.out.1 (by decide))
  have HS2 := Lib.hid (hk2.bx (HS1.out.alloc _) hSb (by decide))
  have HK2 := Lib.hid ((HK1.out.alloc H1.out.base _).trans hk2)
  have c5 := HX2.out.c 0 rfl
  clear h2 hk2 c5 H1 HX1 HK1 HS1
  have c5 := HX2.out.c 0 rfl
  have hl5 := HX2.out.lt
  by_cases hz : f.len = 0
  · obtain rfl : f = .nil := by
      cases f with
      | nil => rfl
      | cons h k r => rw [Fo.len] at hz; omega
    simp only [Fo.len]
    gi_wp2_with fail
    refine door_both enters_put (put1_both fin _ (H2.out.alloc _) (Bx.new _ _ _) (by rw [ByteArray.size_append]; have := HT1.out; omega)) ?_
    rintro o w3 ⟨rfl, h3, hk3⟩
    refine ⟨rfl, _, results_none rfl _ _ _, rfl, ?_, (HK2.out.alloc H2.out.base _).trans hk3⟩
    rw [show innB L i Fo.nil.isNil (docs L Fo.nil (i + 1) m false) = ⟨#[]⟩ from rfl, app_e, ← ByteArray.append_assoc]
    exact h3
  · have hz2 : ((f.len : Int) == 0) = false := by simp; omega
    have hdp : 1 ≤ f.deep := by
      cases f with
      | nil => exact absurd rfl hz
      | cons h k r => simp only [Fo.deep]; omega
    have HDp := Lib.hid hdp
    clear hdp
    have HE := Lib.hid (Bx.new w2 #[.string fin] 9)
    have H2a := Lib.hid (H2.out.alloc (.cells #[.string fin] 9))
    have HX2a := Lib.hid (HX2.out.alloc (.cells #[.string fin] 9))
    have HS2a := Lib.hid (HS2.out.alloc (.cells #[.string fin] 9))
    have HK2a := Lib.hid (HK2.out.alloc H2.out.base (.cells #[.string fin] 9))
    have hEb : w2.heap.size ≠ b := by have := H2.out.lt; omega
    gi_wp2_with fail
    refine ⟨trivial, (callsIn_wide (n := _)).2 ?_⟩
    refine ((newLine_both 1 (i + 1) H2a.out (by have := HI.out; rw [show ((i : Nat) : Int) + 1 = ((i + 1 : Nat) : Int) by omega]; unfold wrap64; omega) (by have := HI.out; omega) (by have := HLo.out.d; omega) (by have h5 := nlB_le HLo.out (n := i + 1) (by have := HI.out; have := HDp.out; omega); rw [ByteArray.size_append]; have := HT1.out; omega)).1).mono ?_
    rintro o w3 ⟨rfl, h3, hk3⟩
    have H3 := Lib.hid h3
    have HE3 := Lib.hid (hk3.bx HE.out hEb (by decide))
    have HX3 := Lib.hid (hk3.bx HX2a.out HB5.out.1 (by decide))
    have HS3 := Lib.hid (hk3.bx HS2a.out hSb (by decide))
    have HK3 := Lib.hid (HK2a.out.trans hk3)
    clear h3 hk3 c5 hl5 H2 HX2 HS2 HK2 HE H2a HX2a HS2a HK2a
    have c5 := HX3.out.c 0 rfl
    have hl5 := HX3.out.lt
    gi_wp2
    refine label_in ?_
    gi_wp2_with (refine ⟨trivial, ?_⟩; gi_at_call 88; refine (callsIn_wide.2 (jthrough_calls _ _ _ _ _ _ _)).mono ?_; rintro o w4 ⟨rfl, rfl⟩)
    obtain ⟨W0, hW0⟩ : ∃ W0, W0 = (w3.alloc (.cells #[.slice A f.len c] 25)).alloc (.cells #[.slice (some ⟨S, 0, none⟩) (marksN m) (marksN m)] 121) := ⟨_, rfl⟩
    rw [← hW0]
    obtain ⟨T1, hT1⟩ : ∃ T1, T1 = t ++ beg ++ nlB L (i + 1) := ⟨_, rfl⟩
    have a1 : Bx W0 w3.heap.size #[.slice A f.len c] 25 := by rw [hW0]; exact (Bx.new w3 _ _).alloc _
    have a2 : Bx W0 (w3.heap.size + 1) #[.slice (some ⟨S, 0, none⟩) (marksN m) (marksN m)] 121 := by rw [hW0]; exact Bx.new1 w3 _ _ _
    have HX0 : Hid (Bx W0 W.heap.size #[.pointer (some ⟨b, 0, none⟩)] 43) := Lib.hid (by rw [hW0]; exact (HX3.out.alloc _).alloc _)
    have a3 : Bx W0 S (marksC m) 9 := by rw [hW0]; exact (HS3.out.alloc _).alloc _
    have HE0 : Hid (Bx W0 w2.heap.size #[.string fin] 9) := Lib.hid (by rw [hW0]; exact (HE3.out.alloc _).alloc _)
    have H0 : Hid (Wr w0 b M L ((i + 1 : Nat) : Int) T1 W0) := Lib.hid (by rw [hW0, hT1]; exact (H3.out.alloc _).alloc _)
    have HK0 : Hid (Ok w0 b W W0) := Lib.hid (by rw [hW0]; exact (HK3.out.alloc H3.out.base _).alloc (H3.out.alloc _).base _)
    have hsz : W0.heap.size = w3.heap.size + 2 := by rw [hW0]; simp
    have hMb : M ≠ b := by
      intro e
      obtain ⟨h5, p5, v5, _, h6⟩ := H0.out
      have := h6.bx
      rw [Bx, ← e, h5] at this
      cases this
    have HMb := Lib.hid hMb
    have HTz : Hid (T1.size ≤ t.size + 82) := Lib.hid (by
      have h5 := nlB_le HLo.out (n := i + 1) (by have := HI.out; have := HDp.out; omega)
      rw [hT1, ByteArray.size_append, ByteArray.size_append]
      omega)
    have HT1e := Lib.hid hT1
    have hbl := H0.out.lt
    have hst := jthrough_stops w0 W0 b f _ w3.heap.size (w3.heap.size + 1) S m a1 a2 a3 ⟨by have := H3.out.lt; omega, by have := H3.out.lt; omega, hSb⟩ HK.out H0.out.hw hlen hbl (5 - 1) (by decide)
    have HST := Lib.hid hst
    have HBL := Lib.hid hbl
    have HB0 := Lib.hid H0.out.base
    clear hW0 hT1 hst hMb hbl hsz a1 a2 a3 c5 hl5
    refine wpIn_rangeFunc_ownH rfl (by omega) (gf := 110) rfl trivial (enters_of Tryz.func110 (by kernel_rfl) rfl) HST.out Kj.trans (fun V l o o' hl h hc _ => Kj.putObj V l o o' (Nat.le_trans HB0.out hl) h hc) (Below.refl _ _) (fun _ => rfl)
      (fun pre V => (∀ x ∈ pre, x.1.j + 1 ≠ f.len) ∧ ((∃ p v, (p = .pointer none ∨ p = .pointer (some ⟨b, 0, none⟩)) ∧ Wp w0 b p v L ((i + 1 : Nat) : Int) (.map (some M)) (T1 ++ allB L (i + 1) m pre) V) ∧ Ok w0 b W0 V))
      (fun cc pre V => (cc = .exit 0 ∧ ∃ ini x, pre = ini ++ [x] ∧ x.1.j + 1 = f.len) ∧ ((∃ p v, (p = .pointer none ∨ p = .pointer (some ⟨b, 0, none⟩)) ∧ Wp w0 b p v L ((i + 1 : Nat) : Int) (.map (some M)) (T1 ++ allB L (i + 1) m pre) V) ∧ Ok w0 b W0 V))
      (OwnFrom.and (ownFrom_pure _ _) (OwnFrom.and (ownFrom_wp (fun pre => T1 ++ allB L (i + 1) m pre) HB0.out) (ownFrom_ok HB0.out HB0.out (Nat.le_refl _))))
      (fun _ => OwnFrom.and (ownFrom_pure _ _) (OwnFrom.and (ownFrom_wp (fun pre => T1 ++ allB L (i + 1) m pre) HB0.out) (ownFrom_ok HB0.out HB0.out (Nat.le_refl _))))
      ⟨(fun x hx => by cases hx), (by rw [allB, app_e]; exact H0.out.2), Ok.refl⟩
      (fun x a' V => ∃ C, W0.heap.size ≤ C ∧ Nx V C x.1.h x.1.v ∧ a' = { tmps := #[.pointer (some ⟨b, 0, none⟩), .slice A f.len c, .string beg, .string fin, .slice (some ⟨S, 0, none⟩) (marksN m) (marksN m), .pointer (some ⟨W.heap.size, 0, none⟩), undef, undef, undef, undef, .pointer (some ⟨C, 0, none⟩), .string (markB m f.len x.1.j), .pointer (some ⟨b, 0, none⟩), .pointer (some ⟨b, 0, none⟩), .pointer (some ⟨b, 0, none⟩), .string beg, .slice (some ⟨W.heap.size + 1, 0, none⟩) 1 1, .tuple #[], .pointer (some ⟨b, 0, none⟩), .pointer (some ⟨b, 0, none⟩), .pointer (some ⟨b, 0, none⟩), .string fin, .slice (some ⟨w2.heap.size, 0, none⟩) 1 1, .slice A f.len c, .int .i64 (f.len : Int), .bool false, .pointer (some ⟨b, 0, none⟩), .tuple #[], .pointer (some ⟨b, 0, none⟩), .slice A f.len c, .slice (some ⟨S, 0, none⟩) (marksN m) (marksN m), .func (.func 110) #[] #[.pointer (some ⟨w3.heap.size, 0, none⟩), .pointer (some ⟨w3.heap.size + 1, 0, none⟩)], .agg #[.int .i64 x.1.h.kind, .bool x.1.h.b, .bool x.1.h.neg, .string x.1.h.dig, .int .i64 x.1.h.exp, .int .u64 (x.1.h.u : Int), .int .i64 x.1.h.w, .string x.1.h.s, x.1.v], .string (markB m f.len x.1.j), undef, undef, undef, undef, undef, undef, undef, undef, undef, undef, undef, undef, undef, undef, undef, undef, undef, undef, undef, undef, undef, undef, undef, undef, undef, undef, undef], defers := [] })
      (fun x a' _ _ _ _ hs hg hr => by
        obtain ⟨C, h1, h2, h3⟩ := hs
        exact ⟨C, h1, bx_kept h2 hg (fun r e => (hr r e).2), h3⟩)
      ?_ ?_ ?_ ?_
    · intro l pre x V K hI hK
      have hz : W0.heap.size ≤ V.heap.size := hI.2.2.2.1
      have HIi := Lib.hid hI
      have HKK := Lib.hid hK
      have HZz := Lib.hid hz
      clear hI hK hz
      obtain ⟨⟨j', h', v', k'⟩, hjx, hkx, hux⟩ := x
      obtain ⟨A', c', hv', _, _, _⟩ := hkx.form
      dsimp only at hv'
      subst hv'
      simp only [encJ, Hd.cells] at HKK ⊢
      gi_wp2
      obtain ⟨i1, ⟨p5, v5, hp5, i2⟩, i3⟩ := HIi.out
      have hbl2 := HBL.out
      exact HKK.out _ _ ((KeepsOthers.alloc _ _).from _) (Kj.of_below (below_a (Below.refl _ _) _) (Nat.le_trans HB0.out HZz.out)) ⟨i1, ⟨p5, v5, hp5, i2.below (below_a (Below.refl _ _) _)⟩, i3.alloc i2.base _⟩ ⟨V.heap.size, HZz.out, Nx.new V _ _, rfl⟩
    · rintro l pre x a' V hl hlo ⟨i1, i2, i3⟩ ⟨C, hC, hx, rfl⟩ hlen'
      obtain ⟨⟨j', h', v', k'⟩, hjx, hkx, hux⟩ := x
      obtain ⟨A', c', hv', _, _, _⟩ := hkx.form
      dsimp only at hv'
      subst hv'
      dsimp only at hx hkx hux hjx ⊢
      obtain ⟨r', hr'⟩ := hjx
      obtain ⟨X, hX⟩ : ∃ X : Nj f w0, X = ⟨⟨j', h', .slice A' k'.len c', k'⟩, ⟨r', hr'⟩, hkx, hux⟩ := ⟨_, rfl⟩
      have HX := Lib.hid hX
      have hWr : Wr w0 b M L ((i + 1 : Nat) : Int) (T1 ++ allB L (i + 1) m pre) V := ⟨i3.obj H0.out.1 HMb.out (fun _ _ e => by cases e), i2⟩
      have HWr := Lib.hid hWr
      have HI3 := Lib.hid i3
      have HI1 := Lib.hid i1
      have HXV := Lib.hid (i3.bx HX0.out HB5.out.1 (by decide))
      have HCb : Hid (C ≠ b) := Lib.hid (by have := HBL.out; omega)
      have HCx := Lib.hid hx
      have hcnt : k'.cnt < n := by have := take_cnt j' f hr'; omega
      have hdd := drop_deep j' f hr'
      have hGj := allG_drop j' HG.out
      rw [hr'] at hGj
      have hit := it_size (L := L) (i := i + 1) (m := m) X
      rw [hX] at hit
      dsimp only at hit
      have hnb : (nodeB L (i + 1) h' k').size ≤ Z := by
        have := HZ.out
        rw [itB, ByteArray.size_append] at hit
        omega
      have hab := allB_le (w0 := w0) HZ.out pre
      have hpl : pre.length * Z ≤ 300 * Z := Nat.mul_le_mul_right _ (by omega)
      have hmul : (k'.deep + 2) * (302 * Z + 300) ≤ (f.deep + 1) * (302 * Z + 300) := Nat.mul_le_mul_right _ (by omega)
      have hbud : (T1 ++ allB L (i + 1) m pre).size + (k'.deep + 2) * (302 * Z + 300) + 100 + 2 * Z ≤ 1000000000000 := by
        rw [ByteArray.size_append]
        have := HTz.out
        have := HT.out
        omega
      have HBud : Hid ((T1 ++ allB L (i + 1) m pre).size + 100 + 2 * Z ≤ 1000000000000) := Lib.hid (by omega)
      have HNd := Lib.hid (HN.out h' k' (.slice A' k'.len c') (i + 1) _ V hcnt hWr hkx hux ⟨hGj.1, hGj.2.1, trivial⟩ hnb (by omega) (by have := HI.out; omega))
      have HNb := Lib.hid hnb
      have c5 := HXV.out.c 0 rfl
      obtain ⟨n0, n1, n2, n3, n4, n5, n6, n7, n8⟩ := hx.nine
      have hlV := HXV.out.lt
      clear i1 i2 i3 hx hWr hX hcnt hdd hGj hit hnb hab hpl hmul hbud hlo
      simp only [Hd.cells] at HNd
      gi_wp2_with fail
      refine ⟨trivial, CallsIn.inRound l ((callsIn_wide (n := 2)).2 ?_)⟩
      refine HNd.out.mono ?_
      rintro o V1 ⟨rfl, h1, hk1⟩
      have H1 := Lib.hid h1
      have HK1 := Lib.hid hk1
      have HXV1 := Lib.hid (hk1.bx HXV.out HB5.out.1 (by decide))
      obtain ⟨_, p6, v6, _, hw6⟩ := HWr.out
      have HKF : Hid (∀ B V2, Ok w0 b V V2 → KeepsFrom B V V2) := Lib.hid (fun B V2 h => ok_keepsFrom h hw6.bx B)
      clear h1 hk1 hw6 c5 n0 n1 n2 n3 n4 n5 n6 n7 n8 hlV
      have c5 := HXV1.out.c 0 rfl
      have hlV1 := HXV1.out.lt
      have hTx : ∀ x : Nj f w0, x.1.j = j' → x.1.h = h' → x.1.k = k' → T1 ++ allB L (i + 1) m (pre ++ [x]) = T1 ++ allB L (i + 1) m pre ++ itB L (i + 1) m f.len j' h' k' := by
        rintro x rfl rfl rfl
        rw [allB_app, allB_one, ByteArray.append_assoc]
      have hNx : ∀ x : Nj f w0, x.1.j = j' → j' + 1 ≠ f.len → ∀ y ∈ pre ++ [x], y.1.j + 1 ≠ f.len := by
        rintro x rfl hne y hy
        rcases List.mem_append.1 hy with h | h
        · exact HI1.out y h
        · simp at h; subst h; exact hne
      have HTx := Lib.hid hTx
      have HNx := Lib.hid hNx
      have HTs : Hid ((T1 ++ allB L (i + 1) m pre ++ nodeB L (i + 1) h' k').size + 100 ≤ 1000000000000) := Lib.hid (by rw [ByteArray.size_append]; have := HBud.out; have := HNb.out; omega)
      clear hTx hNx
      by_cases hlast : j' + 1 = f.len
      · have hmk : markB m f.len j' = ⟨#[]⟩ := by rw [markB, if_pos hlast]
        rw [hmk]
        gi_wp2
        refine ⟨HKF.out _ _ HK1.out, ⟨rfl, pre, _, rfl, hlast⟩, ?_, HI3.out.trans HK1.out⟩
        have := H1.out.2
        rw [HTx.out _ rfl rfl rfl, itB, if_pos hlast, app_e]
        exact this
      · by_cases hkey : (m && (j' % 2 == 0)) = true
        · have hmk : markB m f.len j' = ⟨#[58]⟩ := by rw [markB, if_neg hlast, if_pos hkey]
          rw [hmk]
          gi_wp2
          refine region_round hmx (by kernel_rfl) (by rintro ⟨_, _, h⟩; exact h) ?_
          refine wpAny_of_held (S := fun w' => w'.cell? ⟨W.heap.size, 0, none⟩ = some (.pointer (some ⟨b, 0, none⟩)) ∧ w'.cell? ⟨b, 4, none⟩ = some (.string L.k)) _ _ _ _ ?_
          have hHeld : V1.drew.cell? ⟨W.heap.size, 0, none⟩ = some (.pointer (some ⟨b, 0, none⟩)) ∧ V1.drew.cell? ⟨b, 4, none⟩ = some (.string L.k) := ⟨HXV1.out.c 0 rfl, H1.out.held.2.2.1⟩
          refine wpAnyH_take (i := 0) (v := .pointer (some ⟨b, 0, none⟩)) rfl (by kernel_rfl) (by kernel_rfl) (by kernel_rfl) (fun _ _ _ h => h) (Or.inl ⟨by rfl, by rintro w ⟨h1, h2⟩; go_simp⟩) hHeld ?_
          refine wpAnyH_take (i := 1) (v := .pointer (some ⟨b, 0, none⟩)) rfl (by kernel_rfl) (by kernel_rfl) (by kernel_rfl) (fun _ _ _ h => h) (Or.inl ⟨by rfl, by rintro w ⟨h1, h2⟩; go_simp⟩) hHeld ?_
          refine wpAnyH_take (i := 2) (v := .pointer (some ⟨b, 0, none⟩)) rfl (by kernel_rfl) (by kernel_rfl) (by kernel_rfl) (fun _ _ _ h => h) (Or.inl ⟨by rfl, by rintro w ⟨h1, h2⟩; go_simp⟩) hHeld ?_
          refine wpAnyH_take (i := 3) (v := .string ⟨#[58]⟩) rfl (by kernel_rfl) (by kernel_rfl) (by kernel_rfl) (fun _ _ _ h => h) (Or.inl ⟨by rfl, by rintro w ⟨h1, h2⟩; go_simp⟩) hHeld ?_
          refine wpAnyH_take (i := 4) (v := .pointer (some ⟨b, 0, none⟩)) rfl (by kernel_rfl) (by kernel_rfl) (by kernel_rfl) (fun _ _ _ h => h) (Or.inl ⟨by rfl, by rintro w ⟨h1, h2⟩; go_simp⟩) hHeld ?_
          refine wpAnyH_take (i := 5) (v := .pointer (some ⟨b, 0, none⟩)) rfl (by kernel_rfl) (by kernel_rfl) (by kernel_rfl) (fun _ _ _ h => h) (Or.inl ⟨by rfl, by rintro w ⟨h1, h2⟩; go_simp⟩) hHeld ?_
          refine wpAnyH_take (i := 6) (v := .pointer (some ⟨b, 2, none⟩)) rfl (by kernel_rfl) (by kernel_rfl) (by kernel_rfl) (fun _ _ _ h => h) (Or.inl ⟨by rfl, by rintro w ⟨h1, h2⟩; go_simp⟩) hHeld ?_
          refine wpAnyH_take (i := 7) (v := .pointer (some ⟨b, 4, none⟩)) rfl (by kernel_rfl) (by kernel_rfl) (by kernel_rfl) (fun _ _ _ h => h) (Or.inl ⟨by rfl, by rintro w ⟨h1, h2⟩; go_simp⟩) hHeld ?_
          refine wpAnyH_take (i := 8) (v := .string L.k) rfl (by kernel_rfl) (by kernel_rfl) (by kernel_rfl) (fun _ _ _ h => h) (Or.inl ⟨by rfl, by rintro w ⟨h1, h2⟩; go_simp⟩) hHeld ?_
          refine wpAnyH_ready (rs := [9]) (by kernel_rfl) (by simp) ?_
          refine AllReadyH.cons rfl (fun K hK => ?_) AllReadyH.nil
          go_simp
          refine hK.out _ _ ⟨((show Bx V1.drew _ _ _ from HXV1.out).alloc _).c 0 rfl, (H1.out.drew.alloc _).held.2.2.1⟩ (fun hHeld => ?_)
          clear hK K
          refine wpAnyH_ready (rs := [10]) (by kernel_rfl) (by simp) ?_
          refine AllReadyH.cons rfl (fun K hK => ?_) AllReadyH.nil
          go_simp
          refine ((put2_both ⟨#[58]⟩ L.k _ (H1.out.drew.alloc _) (Bx.new _ _ _) (by have := H1.out.lt; show V1.heap.size ≠ b; omega) (by rw [show (ByteArray.mk #[58]).size = 1 from rfl]; have := HLo.out.k; have := HTs.out; omega)).1).mono ?_
          rintro o V2 ⟨rfl, h2, hk2⟩
          have H2 := Lib.hid h2
          have HXV2 := Lib.hid (hk2.bx ((show Bx V1.drew _ _ _ from HXV1.out).alloc _) HB5.out.1 (by decide))
          have HK2 := Lib.hid ((HK1.out.drew.alloc H1.out.base _).trans hk2)
          clear h2 hk2 hHeld
          refine hK.out _ _ ⟨HXV2.out.c 0 rfl, H2.out.held.2.2.1⟩ (fun hHeld => ?_)
          clear hK K hHeld c5 hlV1
          refine wpAnyH_done (by kernel_rfl) ?_ _
          gi_wp2
          refine ⟨HKF.out _ _ HK2.out, Kj.of_ok HK2.out, HNx.out _ rfl hlast, ?_, HI3.out.trans HK2.out⟩
          have := H2.out.2
          have hsep : sepB L (i + 1) m (j' % 2 == 1) = ⟨#[58]⟩ ++ L.k := by
            rw [sepB, if_pos]
            rcases Nat.mod_two_eq_zero_or_one j' with h5 | h5
            · rw [h5] at hkey ⊢; exact hkey
            · rw [h5] at hkey; simp at hkey
          rw [HTx.out _ rfl rfl rfl, itB, if_neg hlast, hsep, ← ByteArray.append_assoc, ← ByteArray.append_assoc]
          exact this
        · have hmk : markB m f.len j' = ⟨#[44]⟩ := by rw [markB, if_neg hlast, if_neg hkey]
          rw [hmk]
          gi_wp2_with fail
          refine ⟨trivial, CallsIn.inRound l ((callsIn_wide (n := 2)).2 ?_)⟩
          refine ((put1_both ⟨#[44]⟩ _ (H1.out.alloc _) (Bx.new _ _ _) (by rw [show (ByteArray.mk #[44]).size = 1 from rfl]; have := HTs.out; omega)).1).mono ?_
          rintro o V2 ⟨rfl, h2, hk2⟩
          have H2 := Lib.hid h2
          have HXV2 := Lib.hid (hk2.bx (HXV1.out.alloc _) HB5.out.1 (by decide))
          have HK2 := Lib.hid ((HK1.out.alloc H1.out.base _).trans hk2)
          clear h2 hk2 c5 hlV1
          have c5 := HXV2.out.c 0 rfl
          gi_wp2_with fail
          refine ⟨trivial, CallsIn.inRound l ((callsIn_wide (n := 2)).2 ?_)⟩
          refine ((newLine_both 0 (i + 1) H2.out (by have := HI.out; unfold wrap64; omega) (by have := HI.out; omega) (by have := HLo.out.d; omega) (by have h5 := nlB_le HLo.out (n := i + 1) (by have := HI.out; have := HDp.out; omega); rw [ByteArray.size_append, show (ByteArray.mk #[44]).size = 1 from rfl]; have := HTs.out; omega)).1).mono ?_
          rintro o V3 ⟨rfl, h3, hk3⟩
          have H3' := Lib.hid h3
          have HK3' := Lib.hid (HK2.out.trans hk3)
          clear h3 hk3 c5
          gi_wp2
          refine ⟨HKF.out _ _ HK3'.out, Kj.of_ok HK3'.out, HNx.out _ rfl hlast, ?_, HI3.out.trans HK3'.out⟩
          have := H3'.out.2
          have hsep : sepB L (i + 1) m (j' % 2 == 1) = ⟨#[44]⟩ ++ nlB L (i + 1) := by
            rw [sepB, if_neg]
            rcases Nat.mod_two_eq_zero_or_one j' with h5 | h5
            · rw [h5] at hkey ⊢; exact hkey
            · rw [h5]; simp
          rw [HTx.out _ rfl rfl rfl, itB, if_neg hlast, hsep, ← ByteArray.append_assoc, ← ByteArray.append_assoc]
          exact this
    · rintro D ys V hD hS ⟨i1, i2, i3⟩ hDf
      exfalso
      have hm : f.len - 1 ∈ ys.map (·.1.j) := by rw [hS]; exact List.mem_range.2 (by omega)
      obtain ⟨y, hy, he⟩ := List.mem_map.1 hm
      have := i1 y hy
      omega
    · rintro D cc pre V hD ⟨q, hq, hqs⟩ ⟨⟨rfl, ini, x, hp, hx⟩, i2, i3⟩ hDf
      have hpl : pre.length = q := by
        have := congrArg List.length hqs
        rwa [List.length_map, List.length_range] at this
      have hqf : q = f.len := by
        rw [hp, List.map_append] at hqs
        have h5 : (ini.map (·.1.j) ++ [x.1.j])[q - 1]? = some x.1.j := by
          rw [hp, List.length_append, List.length_singleton] at hpl
          rw [List.getElem?_append_right (by rw [List.length_map]; omega), List.length_map, show q - 1 - ini.length = 0 by omega]
          rfl
        have h6 : (List.range q)[q - 1]? = some (q - 1) := by
          rw [hp, List.length_append, List.length_singleton] at hpl
          rw [List.getElem?_range (by omega)]
        rw [show [x].map (fun y : Nj f w0 => y.1.j) = [x.1.j] from rfl] at hqs
        rw [hqs, h6] at h5
        have := Option.some.inj h5
        rw [hp, List.length_append, List.length_singleton] at hpl
        omega
      have HAll : Hid (allB L (i + 1) m pre = docs L f (i + 1) m false) := Lib.hid (by
        have := allB_all (L := L) (i := i + 1) (m := m) pre 0 (by rw [hqs, hpl, List.range_eq_range']) (by omega)
        exact this)
      have HWr : Hid (Wr w0 b M L ((i + 1 : Nat) : Int) (T1 ++ allB L (i + 1) m pre) V) := Lib.hid ⟨i3.obj H0.out.1 HMb.out (fun _ _ e => by cases e), i2⟩
      have HI3 := Lib.hid i3
      have HEV := Lib.hid (i3.bx HE0.out hEb (by decide))
      have HDf := Lib.hid hDf
      clear i2 i3 hDf hpl hqf hqs hp hx
      gi_wp2
      refine door_mark HDf.out ?_
      have hg := grownBy_putObj' V D (.deferred none)
      obtain ⟨V', hV'⟩ : ∃ V', V' = V.putObj D (.deferred none) := ⟨_, rfl⟩
      rw [← hV'] at hg ⊢
      have hMD : M ≠ D := by
        intro e
        have h5 := HWr.out.1
        rw [e, HDf.out] at h5
        cases h5
      have hW' : Wr w0 b M L ((i + 1 : Nat) : Int) (T1 ++ allB L (i + 1) m pre) V' := by
        obtain ⟨h5, p5, v5, hp5, h6⟩ := HWr.out
        exact ⟨by rw [hV']; exact (World.putObj_heap_other hMD).trans h5, p5, v5, hp5, h6.grown hg (fun r e => by cases e; exact ⟨Nat.le_trans HB0.out hD, _, HDf.out, rfl⟩)⟩
      have hE' : Bx V' w2.heap.size #[.string fin] 9 := bx_kept HEV.out hg (fun r e => by cases e; exact ⟨_, HDf.out, rfl⟩)
      have hK' : Ok w0 b W V' := by
        have h5 := HK0.out.trans HI3.out
        have h6 := HK0.out.2.1
        rw [hV']
        refine ⟨h5.1.grown (grownBy_putObj' V D (.deferred none)) HWr.out.base (fun k e => by cases e; exact Nat.le_trans HB0.out hD), Nat.le_trans h5.2.1 (by simp), fun k o hk h7 h8 => ?_⟩
        have h9 := (Array.getElem?_eq_some_iff.1 hk).1
        exact (World.putObj_heap_other (by omega)).trans (h5.2.2 k o hk h7 h8)
      have hab : (docs L f (i + 1) m false).size ≤ Z := HZ.out
      rw [HAll.out] at hW'
      have hz3 : f.isNil = false := by rw [isNil_len]; simpa using hz
      have hsz : (T1 ++ docs L f (i + 1) m false).size + 100 ≤ 1000000000000 := by
        rw [ByteArray.size_append]
        have := HTz.out
        have := HT.out
        omega
      have h5 := nlB_le HLo.out (n := i) (by have := HI.out; omega)
      refine door_both enters_line (newLine_both (-1) i hW' (by have := HI.out; unfold wrap64; omega) (by have := HI.out; omega) (by have := HLo.out.d; omega) (by omega)) ?_
      rintro o V2 ⟨rfl, h6, hk6⟩
      refine ⟨rfl, door_both enters_put (put1_both fin _ h6 (hk6.bx hE' hEb (by decide)) (by rw [ByteArray.size_append]; omega)) ?_⟩
      rintro o V3 ⟨rfl, h7, hk7⟩
      refine ⟨rfl, _, results_none rfl _ _ _, rfl, ?_, (hK'.trans hk6).trans hk7⟩
      have he : t ++ (beg ++ innB L i f.isNil (docs L f (i + 1) m false) ++ fin) = T1 ++ docs L f (i + 1) m false ++ nlB L i ++ fin := by
        rw [HT1e.out, hz3]
        simp only [innB, Bool.false_eq_true, if_false, ByteArray.append_assoc]
      rw [he]
      exact h7
end Go.Proofs.YtomociaidccfmaaGreatDoor
