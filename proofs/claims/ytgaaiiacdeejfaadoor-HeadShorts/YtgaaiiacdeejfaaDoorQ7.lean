/- The program's own: Make. -/
import Derived.Test.YtgaaiiacdeejfaaDoorQ6
import Derived.Deep.AppendLies
import Derived.Deep.RegionWith
namespace Go.Proofs.YtgaaiiacdeejfaaDoor
open Go.RowKit

theorem hext_of (a : Nat) : hext a = 0 ∨ hext a = 1 ∨ hext a = 2 ∨ hext a = 4 ∨ hext a = 8 := by
  unfold hext
  repeat' split
  all_goals simp

/-- An append whose run is known, at a step of a region that draws its order. -/
theorem step_append_h {P : Program} {ops : Array Oper} {o : Oper} {a : Act} {w w' : World} {K : Act → World → Prop} {Q : Exit → Act → World → Prop} {E : Prop} {s x : Operand} {t : TypeId} {v u r : Value} (hgd : o.guard = none)
    (ho : o.op = .call { callee := .builtin .append, args := #[s, x], argTypes := #[t, t] }) (hs : a.eval s = v) (hx : a.eval x = u) (hr : (Builtin.append_ #[t, t] o.type #[v, u]).run P w = .ok r w') (h : K (a.put o.dst r) w') :
    if Region.wanted o (yielded ops a.tmps) = true then Oper.wp P o a w K Q else E := by
  have hw : Region.wanted o (yielded ops a.tmps) = true := by simp [Region.wanted, hgd]
  rw [if_pos hw]
  unfold Oper.wp execOp
  simp only [ho, resolve, invoke, builtin, Sem.run_bind, Sem.run_pure, Result.andThen_ok, List.map_toArray, List.map_cons, List.map_nil, hs, hx, hr]
  exact h
theorem hmxH : Tryd.prog.follows .mixedOrders = true := by kernel_rfl
theorem owns_at {W : World} {m g : Nat} {l : List UInt8} (h : At W g (l.map encB).toArray 5) (hm : m ≤ g) (hl : l.length ≤ 100) : W.ownsRow m 5 1 (.slice (some ⟨g, 0, none⟩) l.length l.length) l.length (l.map encB) :=
  ⟨by simp, .inr ⟨g, l.length, _, rfl, hm, h, Nat.le_refl _, by unfold maxLen; omega, by simp, List.take_of_length_le (by simp)⟩⟩
theorem head_app (W : World) (m0 G g : Nat) (c : UInt8) (l : List UInt8) (hm : m0 ≤ G) (hG : At W G #[encB c] 5) (hg : At W g (l.map encB).toArray 5) (hl : l.length ≤ 8) :
    ∃ v' w', (Builtin.append_ #[38, 38] 38 #[.slice (some ⟨G, 0, none⟩) 1 1, .slice (some ⟨g, 0, none⟩) l.length l.length]).run Tryd.prog W = .ok v' w' ∧ w'.ownsRow m0 5 1 v' (1 + l.length) ((c :: l).map encB) ∧ Below m0 W w' ∧ ∀ k, k < W.heap.size → k ≠ G → w'.heap[k]? = W.heap[k]? := by
  obtain ⟨i0, hi, hz0, hz1, hz2⟩ := info_parts info5
  have hown : W.ownsRow m0 5 1 (.slice (some ⟨G, 0, none⟩) 1 1) 1 ([c].map encB) := owns_at (l := [c]) hG hm (by simp)
  obtain ⟨v', w', hr, ho, hgr, _, _⟩ := run_append_own_at (P := Tryd.prog) W m0 38 38 5 i0 (.int .u8 0) 1 1 Tryd.underlying38 hi hz0 hz1 hz2 rfl (by decide) (.slice (some ⟨G, 0, none⟩) 1 1) 1 ([c].map encB) hown ⟨g, 0, none⟩ l.length l.length (l.map encB) (by simp)
    (fun j u hj => by
      have hj2 : j < l.length := by
        rcases Nat.lt_or_ge j l.length with h | h
        · exact h
        · rw [List.getElem?_eq_none (by simpa using h)] at hj; cases hj
      have : (⟨g, 0, none⟩ : Addr).add j = ⟨g, j, none⟩ := by rw [Addr.add_lit, Nat.zero_add]
      rw [this]
      exact hg.c j (by rw [List.getElem?_toArray]; exact hj))
    (fun u hu => by obtain ⟨c, _, rfl⟩ := List.mem_map.1 hu; rfl) (by unfold maxLen; omega) (by omega) (by have := hG.lt; omega)
  refine ⟨v', w', hr, ho, ?_, fun k hk hne => hgr.block k hk (by simpa [Value.ownBlock] using hne)⟩
  exact (Below.refl m0 W).grown hgr (by have := hG.lt; omega) (fun k e => (by
    have h1 : G = k := by simpa [Value.ownBlock] using e
    omega))

set_option maxRecDepth 100000 in
set_option maxHeartbeats 1000000 in
theorem Make_no (m : Int) (a : Nat) (w : World) (hm : m < 0 ∨ 7 < m) : Calls Tryd.prog 11 #[.int .i64 m, .int .u64 (a : Int)] w fun o w' => o = .returned (.tuple #[.string noB, .int .i64 2]) ∧ Below w.heap.size w w' := by
  rcases hm with h | h
  · have hd : decide (m < 0) = true := by simpa using h
    go_enter Tryd.func11, Tryd.ntmps11
    go_wp2
    go_ret2
    exact ⟨rfl, Below.refl _ _⟩
  · have hd : decide (m < 0) = false := by simp; omega
    have hd2 : decide (7 < m) = true := by simpa using h
    go_enter Tryd.func11, Tryd.ntmps11
    go_wp2
    go_ret2
    exact ⟨rfl, Below.refl _ _⟩

set_option maxRecDepth 100000 in
set_option maxHeartbeats 1000000 in
theorem Make_yes (m a : Nat) (w : World) (hm : m < 8) (ha : a < 18446744073709551616) (hT : SizT w) : Calls Tryd.prog 11 #[.int .i64 (m : Int), .int .u64 (a : Int)] w fun o w' => o = .returned (.tuple #[.string (headB m a), .int .i64 0]) ∧ Below w.heap.size w w' := by
  have hd : decide ((m : Int) < 0) = false := by simp
  have hd2 : decide (7 < (m : Int)) = false := by simp; omega
  have HS := Lib.hid (fun W h => shortest_calls a W ha h)
  have HT := Lib.hid hT
  clear ha hT
  obtain ⟨I, hI⟩ : ∃ I, I = hinfo a := ⟨_, rfl⟩
  obtain ⟨X, hX⟩ : ∃ X, X = hext a := ⟨_, rfl⟩
  have HI := Lib.hid hI
  have HX := Lib.hid hX
  have hI2 : I < 32 := by have := hinfo_le a; omega
  rw [← hI, ← hX] at HS
  clear hI hX
  go_enter Tryd.func11, Tryd.ntmps11
  go_wp2_with (go_at_call 20; refine (HS.out _ HT.out).mono ?_; rintro e w1 ⟨rfl, hb1⟩; have HB1 := Lib.hid hb1; clear hb1)
  obtain ⟨Z, hZ⟩ : ∃ Z, Z = w1.heap.size := ⟨_, rfl⟩
  obtain ⟨W1, hW1⟩ : ∃ W1, W1 = (w1.alloc (.cells #[.int .i64 (I : Int), .int .i64 (X : Int)] 41)).drew := ⟨_, rfl⟩
  have hz : At W1 Z #[.int .i64 (I : Int), .int .i64 (X : Int)] 41 := by rw [hW1, hZ]; exact At.new w1 _ _
  have hb1 : Below w.heap.size w W1 := by rw [hW1]; exact (below_al HB1.out _).drew
  have hZw : w.heap.size ≤ Z := by rw [hZ]; exact HB1.out.size
  rw [← hZ]
  have HZ := Lib.hid hz
  have HB := Lib.hid hb1
  have hfi : X = 0 ∨ X = 1 ∨ X = 2 ∨ X = 4 ∨ X = 8 := by rw [HX.out]; exact hext_of a
  have HF := Lib.hid hfi
  have HE := Lib.hid (show encB (UInt8.ofNat (32 * m + I)) = .int .u8 (32 * (m : Int) + (I : Int)) by
    rw [encB, UInt8.toNat_ofNat', Nat.mod_eq_of_lt (by omega), Int.natCast_add, Int.natCast_mul]; rfl)
  refine wp_region_held_drew (S := fun w' => w'.cell? ⟨Z, 0, none⟩ = some (.int .i64 (I : Int)) ∧ w'.cell? ⟨Z, 1, none⟩ = some (.int .i64 (X : Int))) hmxH (by rw [← hW1]; exact ⟨hz.c 0 rfl, hz.c 1 rfl⟩) ?_
  rw [← hW1]
  clear hW1 hz hb1 hfi hZ HB1
  intro hHeld
  refine wpAnyH_take (i := 0) (v := .int .i64 (m : Int)) rfl (by kernel_rfl) (by kernel_rfl) (by kernel_rfl) (fun _ _ _ h => h) (Or.inl ⟨by rfl, by rintro w ⟨h1, h2⟩; go_simp⟩) hHeld ?_
  refine wpAnyH_take (i := 1) (v := .pointer (some ⟨Z, 0, none⟩)) rfl (by kernel_rfl) (by kernel_rfl) (by kernel_rfl) (fun _ _ _ h => h) (Or.inl ⟨by rfl, by rintro w ⟨h1, h2⟩; go_simp⟩) hHeld ?_
  refine wpAnyH_take (i := 2) (v := .int .i64 (I : Int)) rfl (by kernel_rfl) (by kernel_rfl) (by kernel_rfl) (fun _ _ _ h => h) (Or.inl ⟨by rfl, by rintro w ⟨h1, h2⟩; go_simp⟩) hHeld ?_
  refine wpAnyH_take (i := 5) (v := .agg #[.int .i64 (I : Int), .int .i64 (X : Int)]) rfl (by kernel_rfl) (by kernel_rfl) (by kernel_rfl) (fun _ _ _ h => h) (Or.inl ⟨by rfl, by rintro w ⟨h1, h2⟩; go_simp⟩) hHeld ?_
  refine wpAnyH_take (i := 6) (v := .int .u64 (a : Int)) rfl (by kernel_rfl) (by kernel_rfl) (by kernel_rfl) (fun _ _ _ h => h) (Or.inl ⟨by rfl, by rintro w ⟨h1, h2⟩; go_simp⟩) hHeld ?_
  refine wpAnyH_ready (rs := [3]) (by kernel_rfl) (by simp) ?_
  refine AllReadyH.cons rfl (fun K hK => ?_) AllReadyH.nil
  go_simp
  refine (firstOf_calls m I _ hm hI2).mono ?_
  rintro o w2 ⟨rfl, rfl⟩
  refine hK.out _ _ hHeld (fun hHeld => ?_)
  clear hK K
  refine wpAnyH_ready (rs := [4, 7]) (by kernel_rfl) (by simp) ?_
  refine AllReadyH.cons rfl (fun K hK => ?_) (AllReadyH.cons rfl (fun K hK => ?_) AllReadyH.nil)
  · go_simp
    have hG : At (W1.alloc (.cells #[.int .u8 (32 * (m : Int) + (I : Int))] 5)) W1.heap.size #[encB (UInt8.ofNat (32 * m + I))] 5 := by
      rw [HE.out]; exact At.new W1 _ _
    have hb2 : Below w.heap.size w (W1.alloc (.cells #[.int .u8 (32 * (m : Int) + (I : Int))] 5)) := below_al HB.out _
    have hz2 := HZ.out.alloc (.cells #[.int .u8 (32 * (m : Int) + (I : Int))] 5)
    have hs2 : W1.heap.size < (W1.alloc (.cells #[.int .u8 (32 * (m : Int) + (I : Int))] 5)).heap.size := by simp
    obtain ⟨W2, hW2⟩ : ∃ W2, W2 = W1.alloc (.cells #[.int .u8 (32 * (m : Int) + (I : Int))] 5) := ⟨_, rfl⟩
    rw [← hW2] at hG hb2 hz2 hs2 ⊢
    clear hW2
    refine hK.out _ _ ⟨hz2.c 0 rfl, hz2.c 1 rfl⟩ (fun hHeld => ?_)
    clear hK K
    refine wpAnyH_ready (rs := [7]) (by kernel_rfl) (by simp) ?_
    refine AllReadyH.cons rfl (fun K hK => ?_) AllReadyH.nil
    go_simp
    refine (split_calls I X a _ HF.out).mono ?_
    rintro o w3 ⟨g, hg, rfl, hat, hb3⟩
    have hG3 := hG.below hb3
    have hz3 := hz2.below hb3
    have hb4 := hb2.trans (hb3.mono hb2.size)
    clear hz2 hG hb2 hb3 hg hs2
    refine hK.out _ _ ⟨hz3.c 0 rfl, hz3.c 1 rfl⟩ (fun hHeld => ?_)
    clear hK K
    obtain ⟨v', w', hrun, hown, hbw, hbk⟩ := head_app w3 w.heap.size W1.heap.size g (UInt8.ofNat (32 * m + I)) (bigL X a) HB.out.size hG3 hat (by rw [bigL_len]; have := HF.out; omega)
    have hz4 : At w' Z #[.int .i64 (I : Int), .int .i64 (X : Int)] 41 := (hbk Z hz3.lt (by have := HZ.out.lt; omega)).trans hz3
    rw [bigL_len] at hrun hown
    have hb5 := hb4.trans hbw
    have hcv := conv_own (zs := headL m a) (show w'.ownsRow w.heap.size 5 1 v' (1 + X) ((headL m a).map encB) by rw [headL, ← HI.out, ← HX.out]; exact hown)
    clear hz3 hG3 hat hb4 hbw hbk hown
    refine wpAnyH_ready (rs := [8]) (by kernel_rfl) (by simp) ?_
    refine AllReadyH.cons rfl (fun K hK => ?_) AllReadyH.nil
    refine step_append_h (v := .slice (some ⟨W1.heap.size, 0, none⟩) 1 1) (u := .slice (some ⟨g, 0, none⟩) X X) rfl rfl (by go_simp) (by go_simp) hrun ?_
    refine hK.out _ _ ⟨hz4.c 0 rfl, hz4.c 1 rfl⟩ (fun hHeld => ?_)
    clear hK K hrun hz4
    refine wpAnyH_take (i := 9) (v := v') rfl (by kernel_rfl) (by kernel_rfl) (by kernel_rfl) (fun _ _ _ h => h) (Or.inl ⟨by rfl, by rintro w ⟨h1, h2⟩; go_simp⟩) hHeld ?_
    refine wpAnyH_done (by kernel_rfl) ?_ _
    clear hHeld
    go_wp2
    go_ret2
    exact ⟨rfl, hb5⟩
  · go_simp
    refine (split_calls I X a _ HF.out).mono ?_
    rintro o w3 ⟨g, hg, rfl, hat0, hb3⟩
    have hz3 := HZ.out.below hb3
    have hb4 := HB.out.trans (hb3.mono HB.out.size)
    clear hb3 hg
    refine hK.out _ _ ⟨hz3.c 0 rfl, hz3.c 1 rfl⟩ (fun hHeld => ?_)
    clear hK K
    refine wpAnyH_ready (rs := [4]) (by kernel_rfl) (by simp) ?_
    refine AllReadyH.cons rfl (fun K hK => ?_) AllReadyH.nil
    go_simp
    have hG3 : At (w3.alloc (.cells #[.int .u8 (32 * (m : Int) + (I : Int))] 5)) w3.heap.size #[encB (UInt8.ofNat (32 * m + I))] 5 := by
      rw [HE.out]; exact At.new w3 _ _
    have hat := hat0.alloc (.cells #[.int .u8 (32 * (m : Int) + (I : Int))] 5)
    have hb4' : Below w.heap.size w (w3.alloc (.cells #[.int .u8 (32 * (m : Int) + (I : Int))] 5)) := below_al hb4 _
    have hz3' := hz3.alloc (.cells #[.int .u8 (32 * (m : Int) + (I : Int))] 5)
    have hZ3 := hz3.lt
    have hG0 := hb4.size
    obtain ⟨W2, hW2⟩ : ∃ W2, W2 = w3.alloc (.cells #[.int .u8 (32 * (m : Int) + (I : Int))] 5) := ⟨_, rfl⟩
    rw [← hW2] at hG3 hat hb4' hz3' ⊢
    clear hW2 hz3 hat0 hb4
    refine hK.out _ _ ⟨hz3'.c 0 rfl, hz3'.c 1 rfl⟩ (fun hHeld => ?_)
    clear hK K
    obtain ⟨v', w', hrun, hown, hbw, hbk⟩ := head_app W2 w.heap.size w3.heap.size g (UInt8.ofNat (32 * m + I)) (bigL X a) hG0 hG3 hat (by rw [bigL_len]; have := HF.out; omega)
    have hz4 : At w' Z #[.int .i64 (I : Int), .int .i64 (X : Int)] 41 := (hbk Z hz3'.lt (by omega)).trans hz3'
    rw [bigL_len] at hrun hown
    have hb5 := hb4'.trans hbw
    have hcv := conv_own (zs := headL m a) (show w'.ownsRow w.heap.size 5 1 v' (1 + X) ((headL m a).map encB) by rw [headL, ← HI.out, ← HX.out]; exact hown)
    clear hz3' hG3 hat hb4' hbw hbk hown
    refine wpAnyH_ready (rs := [8]) (by kernel_rfl) (by simp) ?_
    refine AllReadyH.cons rfl (fun K hK => ?_) AllReadyH.nil
    refine step_append_h (v := .slice (some ⟨w3.heap.size, 0, none⟩) 1 1) (u := .slice (some ⟨g, 0, none⟩) X X) rfl rfl (by go_simp) (by go_simp) hrun ?_
    refine hK.out _ _ ⟨hz4.c 0 rfl, hz4.c 1 rfl⟩ (fun hHeld => ?_)
    clear hK K hrun hz4
    refine wpAnyH_take (i := 9) (v := v') rfl (by kernel_rfl) (by kernel_rfl) (by kernel_rfl) (fun _ _ _ h => h) (Or.inl ⟨by rfl, by rintro w ⟨h1, h2⟩; go_simp⟩) hHeld ?_
    refine wpAnyH_done (by kernel_rfl) ?_ _
    clear hHeld
    go_wp2
    go_ret2
    exact ⟨rfl, hb5⟩
end Go.Proofs.YtgaaiiacdeejfaaDoor
