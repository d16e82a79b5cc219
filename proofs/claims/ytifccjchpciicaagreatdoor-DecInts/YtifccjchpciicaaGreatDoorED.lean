/- The walk of exponent. -/
import Derived.Test.YtifccjchpciicaaGreatDoorEC
namespace Go.Proofs.YtifccjchpciicaaGreatDoor
open Go.RowKit Go.Shelf
open Go.Lib (decDigits nDigits)

attribute [local go_sem] Oper.semAt_some

set_option maxHeartbeats 1000000 in
theorem values_calls (s : ByteArray) (w : World) :
    Calls Tryz.prog 52 #[.string s] w fun e w' => e = .returned (.func (.func 74) #[] #[.pointer (some ⟨w.heap.size, 0, none⟩)]) ∧ w' = w.alloc (.cells #[.string s] 9) := by
  have hmf : ∀ (fn : Fn) (first cap : Array Value) (w : World), (Instr.makeFunc fn first cap).run Tryz.prog w = .ok (.func fn first cap) w := fun _ _ _ _ => rfl
  go_enter Tryz.func52, Tryz.ntmps52
  go_wp2
  go_ret
  exact ⟨rfl, rfl⟩

theorem vals_stops (n : Nat) (hn : 1 ≤ n) (Bs : Nat) (s : ByteArray) (hd : Digd s s.size) (w : World) (hBw : Bs < w.heap.size) (hc : w.cell? ⟨Bs, 0, none⟩ = some (.string s)) :
    SeqStopsK Fence.wide n Tryz.prog 74 #[.pointer (some ⟨Bs, 0, none⟩)] (fun x : VX => #[Value.int .i64 (x.1 : Int)]) KeepsWalks (fun ys => ys.map (·.1) = vB s s.size)
      (fun pre => ∃ k, k ≤ s.size ∧ pre.map (·.1) = vB s k) s.size w := fun l J Jx W hW hJ _ hY h0 =>
  vals1_in n hn l Bs s hd J Jx hY W hJ ((hW.cell (p := ⟨Bs, 0, none⟩) hBw).trans hc) h0

theorem heap_dN (W : World) : ∀ k, (W.drewN k).heap = W.heap
  | 0 => rfl
  | k + 1 => heap_dN W.drew k
/-- The number of digits' worths. -/
def fv (l : List Nat) : Nat := l.foldl (fun a x => a * 10 + x) 0
theorem fv_snoc (l : List Nat) (x : Nat) : fv (l ++ [x]) = fv l * 10 + x := by simp [fv]
theorem vB_all (s : ByteArray) : vB s s.size = s.data.toList.map fun c => c.toNat - 48 := by
  refine List.ext_getElem? fun i => ?_
  rw [List.getElem?_map]
  by_cases h : i < s.size
  · rw [byte_get h, vB, List.getElem?_map, List.getElem?_range h]; rfl
  · rw [List.getElem?_eq_none (by rw [vB_length]; omega), List.getElem?_eq_none (by rw [← Lib.size_eq]; omega)]; rfl
theorem fv_dv (s : ByteArray) : fv (vB s s.size) = dv s.data.toList := by
  rw [vB_all, fv, dv, List.foldl_map]
theorem fold_lt : ∀ (l : List VX) (acc : Nat), (l.map (·.1)).foldl (fun a x => a * 10 + x) acc < (acc + 1) * 10 ^ l.length
  | [], acc => by simp
  | x :: l, acc => by
    rw [List.map_cons, List.foldl_cons, List.length_cons]
    refine Nat.lt_of_lt_of_le (fold_lt l (acc * 10 + x.1)) ?_
    rw [Nat.pow_succ, Nat.mul_comm (10 ^ l.length) 10, ← Nat.mul_assoc]
    exact Nat.mul_le_mul_right _ (by have := x.2; omega)
theorem fv_lt (pre : List VX) : fv (pre.map (·.1)) < 10 ^ pre.length := by
  have := fold_lt pre 0
  rwa [Nat.zero_add, Nat.one_mul] at this
theorem fv_small (pre : List VX) (h : pre.length < 4) : fv (pre.map (·.1)) < 1000 := by
  have h1 := fv_lt pre
  have h2 : 10 ^ pre.length ≤ 10 ^ 3 := Nat.pow_le_pow_right (by omega) (by omega)
  omega

set_option maxRecDepth 100000 in
set_option maxHeartbeats 1000000 in
theorem exponent_p (B : Nat) (s : ByteArray) (n : Bool) (wh fr : ByteArray) (le : Bool) (po : ByteArray) (w : World) (h : RdAt w B s n wh fr le po) (hd : Digd po po.size) (h4 : po.size ≤ 4) (hf : fr.size ≤ 1000) :
    Calls Tryz.prog 27 #[.pointer (some ⟨B, 0, none⟩)] w fun o w' => o = .returned (.int .i64 ((if le = true then -(dv po.data.toList : Int) else (dv po.data.toList : Int)) - fr.size)) ∧ Below w.heap.size w w' := by
  have HR := Lib.hid h
  have HD := Lib.hid hd
  have hl := h.lt
  have HR1 := Lib.hid (h.alloc (.cells #[.int .i64 0] 3))
  have c5 := HR1.out.c5
  have hmx : Tryz.prog.follows .mixedOrders = true := by kernel_rfl
  clear h hd
  refine (callsIn_wide (n := 5)).1 ?_
  refine callsIn_of_wp_marks Tryz.func27 rfl trivial ?_ rfl
  simp only [Tryz.ntmps27, List.size_toArray, List.length_cons, List.length_nil, Nat.reduceAdd, Nat.reduceSub, Array.replicate_succ, Array.replicate_zero, List.push_toArray, List.append_toArray, List.nil_append, List.cons_append]
  refine wpIn_wide.2 ?_
  go_wp2_with (go_at_call 52; refine (values_calls _ _).mono ?_; rintro o w1 ⟨rfl, rfl⟩)
  refine (wpIn_wide (n := 5)).1 ?_
  have bP : Boxed ((w.alloc (.cells #[.int .i64 0] 3)).alloc (.cells #[.string po] 9)) w.heap.size 3 (.int .i64 0) := (Below.heap_alloc _ _ _ (by simp)).trans (heap_alloc_new w _)
  have bS : Boxed ((w.alloc (.cells #[.int .i64 0] 3)).alloc (.cells #[.string po] 9)) (w.heap.size + 1) 9 (.string po) := by
    have := heap_alloc_new (w.alloc (.cells #[.int .i64 0] 3)) (.cells #[.string po] 9)
    rwa [World.size_alloc] at this
  have hB0 : Below w.heap.size w ((w.alloc (.cells #[.int .i64 0] 3)).alloc (.cells #[.string po] 9)) := ((Below.refl _ w).alloc (Nat.le_refl _) _).alloc (by simp) _
  have hs0 : ((w.alloc (.cells #[.int .i64 0] 3)).alloc (.cells #[.string po] 9)).heap.size = w.heap.size + 2 := by simp
  obtain ⟨W0, hW0⟩ : ∃ W0, W0 = (w.alloc (.cells #[.int .i64 0] 3)).alloc (.cells #[.string po] 9) := ⟨_, rfl⟩
  rw [← hW0] at bP bS hB0 hs0 ⊢
  have HS0 := Lib.hid hs0
  clear hW0 hs0 c5 HR1
  refine wpIn_rangeFunc_ownG rfl (by omega) (gf := 74) (lb := #[.pointer (some ⟨w.heap.size + 1, 0, none⟩)]) rfl trivial (enters_of Tryz.func74 (by kernel_rfl) rfl)
    (vals_stops (5 - 1) (by omega) (w.heap.size + 1) po HD.out _ (by rw [HS0.out]; omega) bS.cell) KeepsWalks.trans (fun W l o o' _ h _ hw => KeepsWalks.putObj o' h hw) (Below.refl _ _) (fun _ => rfl)
    (fun pre W => Boxed W w.heap.size 3 (.int .i64 (fv (pre.map (·.1)) : Nat)) ∧ Below w.heap.size w W)
    (fun _ _ _ => False)
    (OwnFrom.and (Own.from (boxed_own _ _ _) _) (ownFrom_below (Nat.le_refl _) (by rw [HS0.out]; omega)))
    (fun c => ownFrom_pure _ (fun _ => False))
    ⟨bP, hB0⟩ ?_ ?_ ?_ ?_ ?_
  rotate_left 1
  · intro l x W K hK
    gi_wp2
    exact hK
  · rintro l pre x W ⟨hbP, hB⟩ hlen
    have hx := x.2
    have hfs := fv_small pre (by omega)
    obtain ⟨v, hv⟩ : ∃ v, v = fv (pre.map (·.1)) := ⟨_, rfl⟩
    rw [← hv] at hbP hfs
    have hcP := hbP.cell
    have hfP := hbP.frozen
    have HBP := Lib.hid hbP
    have HB := Lib.hid hB
    have HV := Lib.hid hv
    clear hbP hB hv bP bS hB0
    gi_wp2
    refine ⟨(KeepsOthers.setCell _ _ _).from _, KeepsWalks.setCell _ _ _, ?_, HB.out.setCell (p := ⟨w.heap.size, 0, none⟩) (Nat.le_refl _) _⟩
    have := HBP.out.set (.int .i64 ((v : Int) * 10 + (x.1 : Int)))
    rw [List.map_append, List.map_singleton, fv_snoc, ← HV.out, show (((v * 10 + x.1 : Nat)) : Int) = (v : Int) * 10 + (x.1 : Int) from by omega]
    exact this
  · rintro D ys W hD hys ⟨hbP, hB⟩ hK
    have hv : fv (ys.map (·.1)) = dv po.data.toList := by rw [hys, fv_dv]
    have hsm : dv po.data.toList < 10000 := by
      have h1 := dv_lt po.data.toList (List.all_eq_true.2 fun c hc => by
        obtain ⟨i, hi, he⟩ := List.getElem_of_mem hc
        have hi2 : i < po.size := by rw [Lib.size_eq]; exact hi
        have := HD.out i hi2
        rw [byteAt_list, List.getElem?_eq_getElem hi, Option.getD_some, he] at this
        exact this)
      have h2 : 10 ^ po.data.toList.length ≤ 10 ^ 4 := Nat.pow_le_pow_right (by omega) (by rw [← Lib.size_eq]; exact h4)
      omega
    rw [hv] at hbP
    obtain ⟨v, hvv⟩ : ∃ v, v = dv po.data.toList := ⟨_, rfl⟩
    have HV := Lib.hid hvv
    rw [← hvv] at hbP hsm
    have HKd := Lib.hid hK
    have HBx := Lib.hid hB
    have HBP := Lib.hid hbP
    have HRw := Lib.hid (HR.out.below hB)
    have hcP := hbP.cell
    have hfP := hbP.frozen
    have c4 := HRw.out.c4
    have c3 := HRw.out.c3
    clear hK hB hbP hv hvv hys bP bS hB0
    cases le
    · have hw1 : IntKind.i64.wrap ((v : Int) - (fr.size : Int)) = (v : Int) - (fr.size : Int) := IntWalk.i64_in _ (by omega)
      go_wp2
      go_quiet (fail)
      go_wp2
      have hKd : (W.drewN nq).heap[D]? = some (.deferred (some [])) := by rw [heap_dN]; exact HKd.out
      refine ⟨by simp, .inl ⟨_, _, rfl, run_takeDeferred hKd, ?_⟩⟩
      refine ⟨_, results_tmp rfl _ _ _, ?_⟩
      exact ⟨by rw [← HV.out]; rfl, (below_drewN HBx.out nq).trans (belowK_b (w := w) (Nat.le_refl _) _ D _ _ (by rw [HS0.out] at hD; omega) hKd rfl rfl)⟩
    · have hw1 : IntKind.i64.wrap (-(v : Int) - (fr.size : Int)) = -(v : Int) - (fr.size : Int) := IntWalk.i64_in _ (by omega)
      go_wp2
      go_quiet (fail)
      go_wp2
      have hKd : ((W.setCell ⟨w.heap.size, 0, none⟩ (.int .i64 (-(v : Int)))).drewN nq).heap[D]? = some (.deferred (some [])) := by
        rw [heap_dN]
        exact (heap_setCell_other _ ⟨w.heap.size, 0, none⟩ _ _ (by show D ≠ w.heap.size; rw [HS0.out] at hD; omega)).trans HKd.out
      refine ⟨by simp, .inl ⟨_, _, rfl, run_takeDeferred hKd, ?_⟩⟩
      refine ⟨_, results_tmp rfl _ _ _, ?_⟩
      exact ⟨by rw [← HV.out]; rfl, (below_drewN (HBx.out.setCell (p := ⟨w.heap.size, 0, none⟩) (Nat.le_refl _) _) nq).trans (belowK_b (w := w) (Nat.le_refl _) _ D _ _ (by rw [HS0.out] at hD; omega) hKd rfl rfl)⟩
  · rintro D c pre W hD _ h hK
    exact h.elim
end Go.Proofs.YtifccjchpciicaaGreatDoor
