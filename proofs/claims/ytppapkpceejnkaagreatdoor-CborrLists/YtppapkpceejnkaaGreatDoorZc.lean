/- The program's own: Make. The program's own: Read. The program's own: Size, IsShort; what its calls answer. Plain mathematics: what is made is read again; what is read, and is the shortest, is what is made. -/
import Derived.Test.YtppapkpceejnkaaGreatDoorZb
import Derived.Deep.AppendLies
import Derived.Deep.RegionWith
import Derived.ScopeJumps
namespace Go.Proofs.YtppapkpceejnkaaGreatDoor
open Go.RowKit

theorem hext_of (a : Nat) : hext a = 0 ∨ hext a = 1 ∨ hext a = 2 ∨ hext a = 4 ∨ hext a = 8 := by
  unfold hext
  repeat' split
  all_goals simp

/-- An append whose run is known, at a step of a region that draws its order. -/
theorem step_append_h {P : Program} {ops : Array Oper} {o : Oper} {a : Act} {w w' : World} {K : Act → World → Prop} {Q : Exit → Act → World → Prop} {E : Prop} {s x : Operand} {t : TypeId} {v u r : Value} (hgd : o.guard = none)
    (ho : o.op = .call { callee := .builtin .append, args := #[s, x], argTypes := #[t, t] }) (hs : a.eval s = v) (hx : a.eval x = u) (hr : (Builtin.append_ #[t, t] o.type #[v, u]).run P w = .ok r w') (h : K (a.put o.dst r) w') :
    if Region.wanted o (yielded ops a.tmps) = true then Oper.wp P o a w K Q else E := by
  have hw : Region.wanted o (yielded ops a.tmps) = true := by simp [Region.wanted, hgd]
  rw [if_pos hw]
  unfold Oper.wp execOp
  simp only [ho, resolve, invoke, builtin, Sem.run_bind, Sem.run_pure, Result.andThen_ok, List.map_toArray, List.map_cons, List.map_nil, hs, hx, hr]
  exact h
theorem hmxH : Tryz.prog.follows .mixedOrders = true := by kernel_rfl
theorem owns_at {W : World} {m g : Nat} {l : List UInt8} (h : At W g (l.map encB).toArray 5) (hm : m ≤ g) (hl : l.length ≤ 100) : W.ownsRow m 5 1 (.slice (some ⟨g, 0, none⟩) l.length l.length) l.length (l.map encB) :=
  ⟨by simp, .inr ⟨g, l.length, _, rfl, hm, h, Nat.le_refl _, by unfold maxLen; omega, by simp, List.take_of_length_le (by simp)⟩⟩
theorem headQ_app (W : World) (m0 G g : Nat) (c : UInt8) (l : List UInt8) (hm : m0 ≤ G) (hG : At W G #[encB c] 5) (hg : At W g (l.map encB).toArray 5) (hl : l.length ≤ 8) :
    ∃ v' w', (Builtin.append_ #[45, 45] 45 #[.slice (some ⟨G, 0, none⟩) 1 1, .slice (some ⟨g, 0, none⟩) l.length l.length]).run Tryz.prog W = .ok v' w' ∧ w'.ownsRow m0 5 1 v' (1 + l.length) ((c :: l).map encB) ∧ Below m0 W w' ∧ ∀ k, k < W.heap.size → k ≠ G → w'.heap[k]? = W.heap[k]? := by
  obtain ⟨i0, hi, hz0, hz1, hz2⟩ := info_parts info5
  have hown : W.ownsRow m0 5 1 (.slice (some ⟨G, 0, none⟩) 1 1) 1 ([c].map encB) := owns_at (l := [c]) hG hm (by simp)
  obtain ⟨v', w', hr, ho, hgr, _, _⟩ := run_append_own_at (P := Tryz.prog) W m0 45 45 5 i0 (.int .u8 0) 1 1 Tryz.underlying45 hi hz0 hz1 hz2 rfl (by decide) (.slice (some ⟨G, 0, none⟩) 1 1) 1 ([c].map encB) hown ⟨g, 0, none⟩ l.length l.length (l.map encB) (by simp)
    (fun j u hj => by
      have hj2 : j < l.length := by
        rcases Nat.lt_or_ge j l.length with h | h
        · exact h
        · rw [List.getElem?_eq_none (by simpa using h)] at hj; cases hj
      have : (⟨g, 0, none⟩ : Addr).add j = ⟨g, j, none⟩ := by rw [Addr.add_lit, Nat.zero_add]
      rw [this]
      exact hg.c j (by rw [List.getElem?_toArray]; exact hj))
    (fun u hu => by obtain ⟨c, _, rfl⟩ := List.mem_map.1 hu; rfl) (by unfold maxLen; omega) (by omega) (by have := hG.lt; omega)
  refine ⟨v', w', hr, ho, ?_, fun k hk hne => hgr.block k hk (by simpa [Value.ownBlock] using hne)⟩
  exact (Below.refl m0 W).grown hgr (by have := hG.lt; omega) (fun k e => (by
    have h1 : G = k := by simpa [Value.ownBlock] using e
    omega))

set_option maxRecDepth 100000 in
set_option maxHeartbeats 1000000 in
theorem Make_no (m : Int) (a : Nat) (w : World) (hm : m < 0 ∨ 7 < m) : Calls Tryz.prog 20 #[.int .i64 m, .int .u64 (a : Int)] w fun o w' => o = .returned (.tuple #[.string noB, .int .i64 2]) ∧ Below w.heap.size w w' := by
  rcases hm with h | h
  · have hd : decide (m < 0) = true := by simpa using h
    go_enter Tryz.func20, Tryz.ntmps20
    go_wp2
    go_ret2
    exact ⟨rfl, Below.refl _ _⟩
  · have hd : decide (m < 0) = false := by simp; omega
    have hd2 : decide (7 < m) = true := by simpa using h
    go_enter Tryz.func20, Tryz.ntmps20
    go_wp2
    go_ret2
    exact ⟨rfl, Below.refl _ _⟩

set_option maxRecDepth 100000 in
set_option maxHeartbeats 1000000 in
theorem Make_yes (m a : Nat) (w : World) (hm : m < 8) (ha : a < 18446744073709551616) (hT : SizT w) : Calls Tryz.prog 20 #[.int .i64 (m : Int), .int .u64 (a : Int)] w fun o w' => o = .returned (.tuple #[.string (headB m a), .int .i64 0]) ∧ Below w.heap.size w w' := by
  have hd : decide ((m : Int) < 0) = false := by simp
  have hd2 : decide (7 < (m : Int)) = false := by simp; omega
  have HS := Lib.hid (fun W h => shortest_calls a W ha h)
  have HT := Lib.hid hT
  clear ha hT
  obtain ⟨I, hI⟩ : ∃ I, I = hinfo a := ⟨_, rfl⟩
  obtain ⟨X, hX⟩ : ∃ X, X = hext a := ⟨_, rfl⟩
  have HI := Lib.hid hI
  have HX := Lib.hid hX
  have hI2 : I < 32 := by have := hinfo_le a; omega
  rw [← hI, ← hX] at HS
  clear hI hX
  go_enter Tryz.func20, Tryz.ntmps20
  go_wp2_with (go_at_call 37; refine (HS.out _ HT.out).mono ?_; rintro e w1 ⟨rfl, hb1⟩; have HB1 := Lib.hid hb1; clear hb1)
  obtain ⟨Z, hZ⟩ : ∃ Z, Z = w1.heap.size := ⟨_, rfl⟩
  obtain ⟨W1, hW1⟩ : ∃ W1, W1 = (w1.alloc (.cells #[.int .i64 (I : Int), .int .i64 (X : Int)] 78)).drew := ⟨_, rfl⟩
  have hz : At W1 Z #[.int .i64 (I : Int), .int .i64 (X : Int)] 78 := by rw [hW1, hZ]; exact At.new w1 _ _
  have hb1 : Below w.heap.size w W1 := by rw [hW1]; exact (below_al HB1.out _).drew
  have hZw : w.heap.size ≤ Z := by rw [hZ]; exact HB1.out.size
  rw [← hZ]
  have HZ := Lib.hid hz
  have HB := Lib.hid hb1
  have hfi : X = 0 ∨ X = 1 ∨ X = 2 ∨ X = 4 ∨ X = 8 := by rw [HX.out]; exact hext_of a
  have HF := Lib.hid hfi
  have HE := Lib.hid (show encB (UInt8.ofNat (32 * m + I)) = .int .u8 (32 * (m : Int) + (I : Int)) by
    rw [encB, UInt8.toNat_ofNat', Nat.mod_eq_of_lt (by omega), Int.natCast_add, Int.natCast_mul]; rfl)
  refine wp_region_held_drew (S := fun w' => w'.cell? ⟨Z, 0, none⟩ = some (.int .i64 (I : Int)) ∧ w'.cell? ⟨Z, 1, none⟩ = some (.int .i64 (X : Int))) hmxH (by rw [← hW1]; exact ⟨hz.c 0 rfl, hz.c 1 rfl⟩) ?_
  rw [← hW1]
  clear hW1 hz hb1 hfi hZ HB1
  intro hHeld
  refine wpAnyH_take (i := 0) (v := .int .i64 (m : Int)) rfl (by kernel_rfl) (by kernel_rfl) (by kernel_rfl) (fun _ _ _ h => h) (Or.inl ⟨by rfl, by rintro w ⟨h1, h2⟩; go_simp⟩) hHeld ?_
  refine wpAnyH_take (i := 1) (v := .pointer (some ⟨Z, 0, none⟩)) rfl (by kernel_rfl) (by kernel_rfl) (by kernel_rfl) (fun _ _ _ h => h) (Or.inl ⟨by rfl, by rintro w ⟨h1, h2⟩; go_simp⟩) hHeld ?_
  refine wpAnyH_take (i := 2) (v := .int .i64 (I : Int)) rfl (by kernel_rfl) (by kernel_rfl) (by kernel_rfl) (fun _ _ _ h => h) (Or.inl ⟨by rfl, by rintro w ⟨h1, h2⟩; go_simp⟩) hHeld ?_
  refine wpAnyH_take (i := 5) (v := .agg #[.int .i64 (I : Int), .int .i64 (X : Int)]) rfl (by kernel_rfl) (by kernel_rfl) (by kernel_rfl) (fun _ _ _ h => h) (Or.inl ⟨by rfl, by rintro w ⟨h1, h2⟩; go_simp⟩) hHeld ?_
  refine wpAnyH_take (i := 6) (v := .int .u64 (a : Int)) rfl (by kernel_rfl) (by kernel_rfl) (by kernel_rfl) (fun _ _ _ h => h) (Or.inl ⟨by rfl, by rintro w ⟨h1, h2⟩; go_simp⟩) hHeld ?_
  refine wpAnyH_ready (rs := [3]) (by kernel_rfl) (by simp) ?_
  refine AllReadyH.cons rfl (fun K hK => ?_) AllReadyH.nil
  go_simp
  refine (firstOf_calls m I _ hm hI2).mono ?_
  rintro o w2 ⟨rfl, rfl⟩
  refine hK.out _ _ hHeld (fun hHeld => ?_)
  clear hK K
  refine wpAnyH_ready (rs := [4, 7]) (by kernel_rfl) (by simp) ?_
  refine AllReadyH.cons rfl (fun K hK => ?_) (AllReadyH.cons rfl (fun K hK => ?_) AllReadyH.nil)
  · go_simp
    have hG : At (W1.alloc (.cells #[.int .u8 (32 * (m : Int) + (I : Int))] 5)) W1.heap.size #[encB (UInt8.ofNat (32 * m + I))] 5 := by
      rw [HE.out]; exact At.new W1 _ _
    have hb2 : Below w.heap.size w (W1.alloc (.cells #[.int .u8 (32 * (m : Int) + (I : Int))] 5)) := below_al HB.out _
    have hz2 := HZ.out.alloc (.cells #[.int .u8 (32 * (m : Int) + (I : Int))] 5)
    have hs2 : W1.heap.size < (W1.alloc (.cells #[.int .u8 (32 * (m : Int) + (I : Int))] 5)).heap.size := by simp
    obtain ⟨W2, hW2⟩ : ∃ W2, W2 = W1.alloc (.cells #[.int .u8 (32 * (m : Int) + (I : Int))] 5) := ⟨_, rfl⟩
    rw [← hW2] at hG hb2 hz2 hs2 ⊢
    clear hW2
    refine hK.out _ _ ⟨hz2.c 0 rfl, hz2.c 1 rfl⟩ (fun hHeld => ?_)
    clear hK K
    refine wpAnyH_ready (rs := [7]) (by kernel_rfl) (by simp) ?_
    refine AllReadyH.cons rfl (fun K hK => ?_) AllReadyH.nil
    go_simp
    refine (splitQ_calls I X a _ HF.out).mono ?_
    rintro o w3 ⟨g, hg, rfl, hat, hb3⟩
    have hG3 := hG.below hb3
    have hz3 := hz2.below hb3
    have hb4 := hb2.trans (hb3.mono hb2.size)
    clear hz2 hG hb2 hb3 hg hs2
    refine hK.out _ _ ⟨hz3.c 0 rfl, hz3.c 1 rfl⟩ (fun hHeld => ?_)
    clear hK K
    obtain ⟨v', w', hrun, hown, hbw, hbk⟩ := headQ_app w3 w.heap.size W1.heap.size g (UInt8.ofNat (32 * m + I)) (bigL X a) HB.out.size hG3 hat (by rw [bigL_len]; have := HF.out; omega)
    have hz4 : At w' Z #[.int .i64 (I : Int), .int .i64 (X : Int)] 78 := (hbk Z hz3.lt (by have := HZ.out.lt; omega)).trans hz3
    rw [bigL_len] at hrun hown
    have hb5 := hb4.trans hbw
    have hcv := conv_own (zs := headL m a) (show w'.ownsRow w.heap.size 5 1 v' (1 + X) ((headL m a).map encB) by rw [headL, ← HI.out, ← HX.out]; exact hown)
    clear hz3 hG3 hat hb4 hbw hbk hown
    refine wpAnyH_ready (rs := [8]) (by kernel_rfl) (by simp) ?_
    refine AllReadyH.cons rfl (fun K hK => ?_) AllReadyH.nil
    refine step_append_h (v := .slice (some ⟨W1.heap.size, 0, none⟩) 1 1) (u := .slice (some ⟨g, 0, none⟩) X X) rfl rfl (by go_simp) (by go_simp) hrun ?_
    refine hK.out _ _ ⟨hz4.c 0 rfl, hz4.c 1 rfl⟩ (fun hHeld => ?_)
    clear hK K hrun hz4
    refine wpAnyH_take (i := 9) (v := v') rfl (by kernel_rfl) (by kernel_rfl) (by kernel_rfl) (fun _ _ _ h => h) (Or.inl ⟨by rfl, by rintro w ⟨h1, h2⟩; go_simp⟩) hHeld ?_
    refine wpAnyH_done (by kernel_rfl) ?_ _
    clear hHeld
    go_wp2
    go_ret2
    exact ⟨rfl, hb5⟩
  · go_simp
    refine (splitQ_calls I X a _ HF.out).mono ?_
    rintro o w3 ⟨g, hg, rfl, hat0, hb3⟩
    have hz3 := HZ.out.below hb3
    have hb4 := HB.out.trans (hb3.mono HB.out.size)
    clear hb3 hg
    refine hK.out _ _ ⟨hz3.c 0 rfl, hz3.c 1 rfl⟩ (fun hHeld => ?_)
    clear hK K
    refine wpAnyH_ready (rs := [4]) (by kernel_rfl) (by simp) ?_
    refine AllReadyH.cons rfl (fun K hK => ?_) AllReadyH.nil
    go_simp
    have hG3 : At (w3.alloc (.cells #[.int .u8 (32 * (m : Int) + (I : Int))] 5)) w3.heap.size #[encB (UInt8.ofNat (32 * m + I))] 5 := by
      rw [HE.out]; exact At.new w3 _ _
    have hat := hat0.alloc (.cells #[.int .u8 (32 * (m : Int) + (I : Int))] 5)
    have hb4' : Below w.heap.size w (w3.alloc (.cells #[.int .u8 (32 * (m : Int) + (I : Int))] 5)) := below_al hb4 _
    have hz3' := hz3.alloc (.cells #[.int .u8 (32 * (m : Int) + (I : Int))] 5)
    have hZ3 := hz3.lt
    have hG0 := hb4.size
    obtain ⟨W2, hW2⟩ : ∃ W2, W2 = w3.alloc (.cells #[.int .u8 (32 * (m : Int) + (I : Int))] 5) := ⟨_, rfl⟩
    rw [← hW2] at hG3 hat hb4' hz3' ⊢
    clear hW2 hz3 hat0 hb4
    refine hK.out _ _ ⟨hz3'.c 0 rfl, hz3'.c 1 rfl⟩ (fun hHeld => ?_)
    clear hK K
    obtain ⟨v', w', hrun, hown, hbw, hbk⟩ := headQ_app W2 w.heap.size w3.heap.size g (UInt8.ofNat (32 * m + I)) (bigL X a) hG0 hG3 hat (by rw [bigL_len]; have := HF.out; omega)
    have hz4 : At w' Z #[.int .i64 (I : Int), .int .i64 (X : Int)] 78 := (hbk Z hz3'.lt (by omega)).trans hz3'
    rw [bigL_len] at hrun hown
    have hb5 := hb4'.trans hbw
    have hcv := conv_own (zs := headL m a) (show w'.ownsRow w.heap.size 5 1 v' (1 + X) ((headL m a).map encB) by rw [headL, ← HI.out, ← HX.out]; exact hown)
    clear hz3' hG3 hat hb4' hbw hbk hown
    refine wpAnyH_ready (rs := [8]) (by kernel_rfl) (by simp) ?_
    refine AllReadyH.cons rfl (fun K hK => ?_) AllReadyH.nil
    refine step_append_h (v := .slice (some ⟨w3.heap.size, 0, none⟩) 1 1) (u := .slice (some ⟨g, 0, none⟩) X X) rfl rfl (by go_simp) (by go_simp) hrun ?_
    refine hK.out _ _ ⟨hz4.c 0 rfl, hz4.c 1 rfl⟩ (fun hHeld => ?_)
    clear hK K hrun hz4
    refine wpAnyH_take (i := 9) (v := v') rfl (by kernel_rfl) (by kernel_rfl) (by kernel_rfl) (fun _ _ _ h => h) (Or.inl ⟨by rfl, by rintro w ⟨h1, h2⟩; go_simp⟩) hHeld ?_
    refine wpAnyH_done (by kernel_rfl) ?_ _
    clear hHeld
    go_wp2
    go_ret2
    exact ⟨rfl, hb5⟩
end Go.Proofs.YtppapkpceejnkaaGreatDoor
namespace Go.Proofs.YtppapkpceejnkaaGreatDoor
open Go.RowKit

/-- What a text begins with: the major, the info, the argument, what is behind it, the error. -/
def readT (s : ByteArray) : Nat × Nat × Nat × ByteArray × Int :=
  if s.size = 0 then (0, 0, 0, s, 100) else
  match nby ((byteAt s 0).toNat % 32) with
  | none => (0, 0, 0, s, 101)
  | some n => if s.size < 1 + n then (0, 0, 0, s, 100) else
    ((byteAt s 0).toNat / 32, (byteAt s 0).toNat % 32, argV ((byteAt s 0).toNat % 32) (s.extract 1 (1 + n)).data.toList, s.extract (1 + n) s.size, 0)
def rdV (r : Nat × Nat × Nat × ByteArray × Int) : Value := .tuple #[.int .i64 (r.1 : Int), .int .i64 (r.2.1 : Int), .int .u64 (r.2.2.1 : Int), .string r.2.2.2.1, .int .i64 r.2.2.2.2]
theorem not_emptyH {s : ByteArray} (h : 0 < s.size) : s.toList.isEmpty = false := by
  rw [ByteArray.toList_eq]
  cases e : s.data.toList with
  | nil =>
    have := congrArg List.length e
    rw [Array.length_toList, List.length_nil] at this
    have h1 : s.data.size = s.size := rfl
    omega
  | cons => rfl
/-- What holds at the jump. -/
def JmpR (w : World) (s : ByteArray) (e : Int) (a : Act) (w' : World) : Prop := (∃ u1 u2 u3 u4 u5 u6 u7 u8 u9 u10 u12 u13 u14 u15 u16 u17 u18 u19 u20 u21 u22 u23 u24 u25 u26 u27 u28 u29 u30 u31 u32 u33 u34 u35 u36 u37 u38 u39 u40 u41 u42 u43 u44 u45 u46 : Value, a = { tmps := #[.string s, u1, u2, u3, u4, u5, u6, u7, u8, u9, u10, .int .i64 e, u12, u13, u14, u15, u16, u17, u18, u19, u20, u21, u22, u23, u24, u25, u26, u27, u28, u29, u30, u31, u32, u33, u34, u35, u36, u37, u38, u39, u40, u41, u42, u43, u44, u45, u46], defers := [] }) ∧ Below w.heap.size w w'
theorem jump_retH {l : Nat} {J : Act → World → Prop} {Q : Exit → Act → World → Prop} {a : Act} {w : World} : Exit.jump l J Q .ret a w = Q .ret a w := rfl
theorem jmpR_mk {w w' : World} {s : ByteArray} {e : Int} {u1 u2 u3 u4 u5 u6 u7 u8 u9 u10 u12 u13 u14 u15 u16 u17 u18 u19 u20 u21 u22 u23 u24 u25 u26 u27 u28 u29 u30 u31 u32 u33 u34 u35 u36 u37 u38 u39 u40 u41 u42 u43 u44 u45 u46 : Value} (hb : Below w.heap.size w w') : JmpR w s e { tmps := #[.string s, u1, u2, u3, u4, u5, u6, u7, u8, u9, u10, .int .i64 e, u12, u13, u14, u15, u16, u17, u18, u19, u20, u21, u22, u23, u24, u25, u26, u27, u28, u29, u30, u31, u32, u33, u34, u35, u36, u37, u38, u39, u40, u41, u42, u43, u44, u45, u46], defers := [] } w' := ⟨⟨_, _, _, _, _, _, _, _, _, _, _, _, _, _, _, _, _, _, _, _, _, _, _, _, _, _, _, _, _, _, _, _, _, _, _, _, _, _, _, _, _, _, _, _, _, rfl⟩, hb⟩

set_option maxRecDepth 100000 in
set_option maxHeartbeats 1000000 in
theorem Read_empty (w : World) : Calls Tryz.prog 104 #[.string ⟨#[]⟩] w fun o w' => o = .returned (.tuple #[.int .i64 0, .int .i64 0, .int .u64 0, .string ⟨#[]⟩, .int .i64 100]) ∧ Below w.heap.size w w' := by
    go_enter Tryz.func104, Tryz.ntmps104
    go_wp2
    refine wp_scope_jumps 0 (JmpR w ⟨#[]⟩ 100) (fun _ _ => 0) (by rfl) ?_ ?_
    · go_wp2
      refine wp_goto ?_
      exact ⟨rfl, jmpR_mk (below_al (Below.refl _ _) _)⟩
    · rintro a w' ⟨⟨u1, u2, u3, u4, u5, u6, u7, u8, u9, u10, u12, u13, u14, u15, u16, u17, u18, u19, u20, u21, u22, u23, u24, u25, u26, u27, u28, u29, u30, u31, u32, u33, u34, u35, u36, u37, u38, u39, u40, u41, u42, u43, u44, u45, u46, rfl⟩, hb⟩
      have HB := Lib.hid hb
      clear hb
      go_wp2
      rw [jump_retH]
      refine bodyPost_ret (v := .tuple #[.int .i64 0, .int .i64 0, .int .u64 0, .string ⟨#[]⟩, .int .i64 100]) (by simp [results, Tryz.results104, go_sem]) rfl ?_
      exact ⟨rfl, HB.out⟩

set_option maxRecDepth 100000 in
set_option maxHeartbeats 1000000 in
theorem Read_none (s : ByteArray) (c : Nat) (w : World) (h0 : 0 < s.size) (hc : (s[0]'h0).toNat = c) (hn : nby (c % 32) = none) (hT : SizT w) : Calls Tryz.prog 104 #[.string s] w fun o w' => o = .returned (.tuple #[.int .i64 0, .int .i64 0, .int .u64 0, .string s, .int .i64 101]) ∧ Below w.heap.size w w' := by
    have hne := not_emptyH h0
    have hc2 : c < 256 := by rw [← hc]; exact (s[0]'h0).toNat_lt
    obtain ⟨k, hk⟩ : ∃ k, k = c % 32 := ⟨_, rfl⟩
    have HP := Lib.hid (fun W => parts_calls c W hc2)
    have HO := Lib.hid (fun W h => told_calls k W (by omega) h)
    rw [← hk] at hn HP
    unfold toldV at HO
    rw [hn] at HO
    have HT := Lib.hid hT
    obtain ⟨j, hj⟩ : ∃ j, j = c / 32 := ⟨_, rfl⟩
    rw [← hj] at HP
    clear hT hk hj hn hc2
    go_enter Tryz.func104, Tryz.ntmps104
    go_wp2
    refine wp_scope_jumps 0 (JmpR w s 101) (fun _ _ => 0) (by rfl) ?_ ?_
    · go_wp2_with (first
        | (go_at_call 148; refine (HP.out _).mono ?_; rintro o w1 ⟨rfl, rfl⟩)
        | (go_at_call 149; refine (HO.out _ (HT.out.below (below_al (Below.refl _ _) _))).mono ?_; rintro o w2 ⟨rfl, hb2⟩; have hA := (At.new w _ _).below hb2; have g0 := hA.c 0 rfl; have g1 := hA.c 1 rfl; have f0 := hA.f 0; have f1 := hA.f 1; have z4 := hA.lt; have HB2 := Lib.hid (Below.trans (below_al (Below.refl _ _) _) (hb2.mono (by simp))); clear hb2 hA))
      refine wp_goto ?_
      exact ⟨rfl, jmpR_mk (below2 HB2.out (by omega) _ _)⟩
    · rintro a w' ⟨⟨u1, u2, u3, u4, u5, u6, u7, u8, u9, u10, u12, u13, u14, u15, u16, u17, u18, u19, u20, u21, u22, u23, u24, u25, u26, u27, u28, u29, u30, u31, u32, u33, u34, u35, u36, u37, u38, u39, u40, u41, u42, u43, u44, u45, u46, rfl⟩, hb⟩
      have HB := Lib.hid hb
      clear hb
      go_wp2
      rw [jump_retH]
      refine bodyPost_ret (v := .tuple #[.int .i64 0, .int .i64 0, .int .u64 0, .string s, .int .i64 101]) (by simp [results, Tryz.results104, go_sem]) rfl ?_
      exact ⟨rfl, HB.out⟩

set_option maxRecDepth 100000 in
set_option maxHeartbeats 1000000 in
theorem Read_short (s : ByteArray) (c n : Nat) (w : World) (h0 : 0 < s.size) (hc : (s[0]'h0).toNat = c) (hn : nby (c % 32) = some n) (hs : s.size < 1 + n) (hT : SizT w) : Calls Tryz.prog 104 #[.string s] w fun o w' => o = .returned (.tuple #[.int .i64 0, .int .i64 0, .int .u64 0, .string s, .int .i64 100]) ∧ Below w.heap.size w w' := by
    have hne := not_emptyH h0
    have hc2 : c < 256 := by rw [← hc]; exact (s[0]'h0).toNat_lt
    have hn8 := nby_le hn
    obtain ⟨k, hk⟩ : ∃ k, k = c % 32 := ⟨_, rfl⟩
    have HP := Lib.hid (fun W => parts_calls c W hc2)
    have HO := Lib.hid (fun W h => told_calls k W (by omega) h)
    rw [← hk] at hn HP
    unfold toldV at HO
    rw [hn] at HO
    have HT := Lib.hid hT
    obtain ⟨j, hj⟩ : ∃ j, j = c / 32 := ⟨_, rfl⟩
    rw [← hj] at HP
    have hlt : decide ((s.size : Int) < 1 + (n : Int)) = true := by simp; omega
    clear hT hk hj hn hc2 hs
    go_enter Tryz.func104, Tryz.ntmps104
    go_wp2
    refine wp_scope_jumps 0 (JmpR w s 100) (fun _ _ => 0) (by rfl) ?_ ?_
    · go_wp2_with (first
        | (go_at_call 148; refine (HP.out _).mono ?_; rintro o w1 ⟨rfl, rfl⟩)
        | (go_at_call 149; refine (HO.out _ (HT.out.below (below_al (Below.refl _ _) _))).mono ?_; rintro o w2 ⟨rfl, hb2⟩; have hA := (At.new w #[.int .i64 0, .int .i64 0] 78).below hb2; have HA := Lib.hid (show At _ _ #[.int .i64 0, .int .i64 0] 78 from hA); have g0 := hA.c 0 rfl; have g1 := hA.c 1 rfl; have f0 := hA.f 0; have f1 := hA.f 1; have z4 := hA.lt; have HB2 := Lib.hid (Below.trans (below_al (Below.refl _ _) _) (hb2.mono (by simp))); clear hb2 hA)
        | (go_at_call 150; refine (whole_calls _ _ _ (by omega)).mono ?_; rintro o w3 ⟨rfl, hb3⟩))
      refine wp_goto ?_
      exact ⟨rfl, jmpR_mk ((below2 HB2.out (by omega) _ _).trans (hb3.mono (by have := HB2.out.size; simp only [World.size_setCell]; omega)))⟩
    · rintro a w' ⟨⟨u1, u2, u3, u4, u5, u6, u7, u8, u9, u10, u12, u13, u14, u15, u16, u17, u18, u19, u20, u21, u22, u23, u24, u25, u26, u27, u28, u29, u30, u31, u32, u33, u34, u35, u36, u37, u38, u39, u40, u41, u42, u43, u44, u45, u46, rfl⟩, hb⟩
      have HB := Lib.hid hb
      clear hb
      go_wp2
      rw [jump_retH]
      refine bodyPost_ret (v := .tuple #[.int .i64 0, .int .i64 0, .int .u64 0, .string s, .int .i64 100]) (by simp [results, Tryz.results104, go_sem]) rfl ?_
      exact ⟨rfl, HB.out⟩

set_option maxRecDepth 100000 in
set_option maxHeartbeats 1000000 in
theorem Read_yes (s : ByteArray) (c n : Nat) (w : World) (h0 : 0 < s.size) (hc : (s[0]'h0).toNat = c) (hn : nby (c % 32) = some n) (hs : 1 + n ≤ s.size) (hT : SizT w) : Calls Tryz.prog 104 #[.string s] w fun o w' => o = .returned (.tuple #[.int .i64 ((c / 32 : Nat) : Int), .int .i64 ((c % 32 : Nat) : Int), .int .u64 (argV (c % 32) (s.extract 1 (1 + n)).data.toList : Int), .string (s.extract (1 + n) s.size), .int .i64 0]) ∧ Below w.heap.size w w' := by
    have hne := not_emptyH h0
    have hc2 : c < 256 := by rw [← hc]; exact (s[0]'h0).toNat_lt
    have hn8 := nby_le hn
    obtain ⟨k, hk⟩ : ∃ k, k = c % 32 := ⟨_, rfl⟩
    have HP := Lib.hid (fun W => parts_calls c W hc2)
    have HO := Lib.hid (fun W h => told_calls k W (by omega) h)
    rw [← hk] at hn HP
    unfold toldV at HO
    rw [hn] at HO
    have HT := Lib.hid hT
    obtain ⟨j, hj⟩ : ∃ j, j = c / 32 := ⟨_, rfl⟩
    rw [← hj] at HP
    have hlt : decide ((s.size : Int) < 1 + (n : Int)) = false := by simp; omega
    rw [← hk, ← hj]
    obtain ⟨P, hP⟩ : ∃ P, P = s.extract 1 (1 + n) := ⟨_, rfl⟩
    obtain ⟨R, hR⟩ : ∃ R, R = s.extract (1 + n) s.size := ⟨_, rfl⟩
    have hsl1 : ∀ W : World, (Instr.slice 9 (.string s) (some (.int .i64 1)) (some (.int .i64 (1 + (n : Int)))) none).run Tryz.prog W = .ok (.string P) W := fun W => by
      rw [run_slice_string (P := Tryz.prog) W 9 s .i64 .i64 1 (1 + (n : Int)) Tryz.underlying9 (by omega) (by omega) (by omega), hP]
      congr 3
    have hsl2 : ∀ W : World, (Instr.slice 9 (.string s) (some (.int .i64 (1 + (n : Int)))) none none).run Tryz.prog W = .ok (.string R) W := fun W => by
      rw [run_slice_string_from_if (P := Tryz.prog) W 9 s .i64 (1 + (n : Int)) Tryz.underlying9, if_pos ⟨by omega, by omega⟩, hR]
      congr 3
    have hPn : P.size = n := by rw [hP, ByteArray.size_extract]; omega
    rw [← hP, ← hR]
    have HPn := Lib.hid hPn
    clear hT hk hj hn hc2 hP hR hPn
    go_enter Tryz.func104, Tryz.ntmps104
    go_wp2
    refine wp_scope_jumps 0 (fun _ _ => False) (fun _ _ => 0) (by rfl) ?_ ?_
    · go_wp2_with (first
        | (go_at_call 148; refine (HP.out _).mono ?_; rintro o w1 ⟨rfl, rfl⟩)
        | (go_at_call 149; refine (HO.out _ (HT.out.below (below_al (Below.refl _ _) _))).mono ?_; rintro o w2 ⟨rfl, hb2⟩; have hA := (At.new w #[.int .i64 0, .int .i64 0] 78).below hb2; have HA := Lib.hid (show At _ _ #[.int .i64 0, .int .i64 0] 78 from hA); have g0 := hA.c 0 rfl; have g1 := hA.c 1 rfl; have f0 := hA.f 0; have f1 := hA.f 1; have z4 := hA.lt; have HB2 := Lib.hid (Below.trans (below_al (Below.refl _ _) _) (hb2.mono (by simp))); clear hb2 hA)
        | (go_at_call 150; refine (whole_calls _ _ _ (by omega)).mono ?_; rintro o w3 ⟨rfl, hb3⟩))
      have HZ := Lib.hid ((HA.out.set2 (.int .i64 (k : Int)) (.int .i64 (n : Int))).below hb3)
      have HB3 := Lib.hid ((below2 HB2.out (Nat.le_refl _) (.int .i64 (k : Int)) (.int .i64 (n : Int))).trans (hb3.mono (by have := HB2.out.size; simp only [World.size_setCell]; omega)))
      clear hb3 HA HB2 g0 g1 f0 f1 z4
      obtain ⟨Z, hZ⟩ : ∃ Z, Z = w.heap.size := ⟨_, rfl⟩
      rw [← hZ] at HZ ⊢
      have HZe := Lib.hid hZ
      clear hZ
      refine wp_region_held_drew (S := fun w' => w'.cell? ⟨Z, 0, none⟩ = some (.int .i64 (k : Int)) ∧ w'.cell? ⟨Z, 1, none⟩ = some (.int .i64 (n : Int))) hmxH ⟨(show At (World.drew _) _ _ _ from HZ.out).c 0 rfl, (show At (World.drew _) _ _ _ from HZ.out).c 1 rfl⟩ ?_
      have HZ1 := Lib.hid (show At w3.drew _ _ _ from HZ.out)
      have HB4 := Lib.hid HB3.out.drew
      clear HZ HB3
      obtain ⟨W1, hW1⟩ : ∃ W1, W1 = w3.drew := ⟨_, rfl⟩
      rw [← hW1] at HZ1 HB4 ⊢
      clear hW1
      intro hHeld
      refine wpAnyH_take (i := 0) (v := .int .i64 (j : Int)) rfl (by kernel_rfl) (by kernel_rfl) (by kernel_rfl) (fun _ _ _ h => h) (Or.inl ⟨by rfl, by rintro w ⟨h1, h2⟩; go_simp⟩) hHeld ?_
      refine wpAnyH_take (i := 1) (v := .int .i64 (k : Int)) rfl (by kernel_rfl) (by kernel_rfl) (by kernel_rfl) (fun _ _ _ h => h) (Or.inl ⟨by rfl, by rintro w ⟨h1, h2⟩; go_simp⟩) hHeld ?_
      refine wpAnyH_take (i := 2) (v := .agg #[.int .i64 (k : Int), .int .i64 (n : Int)]) rfl (by kernel_rfl) (by kernel_rfl) (by kernel_rfl) (fun _ _ _ h => h) (Or.inl ⟨by rfl, by rintro w ⟨h1, h2⟩; go_simp⟩) hHeld ?_
      refine wpAnyH_take (i := 3) (v := .string s) rfl (by kernel_rfl) (by kernel_rfl) (by kernel_rfl) (fun _ _ _ h => h) (Or.inl ⟨by rfl, by rintro w ⟨h1, h2⟩; go_simp⟩) hHeld ?_
      refine wpAnyH_take (i := 4) (v := .agg #[.int .i64 (k : Int), .int .i64 (n : Int)]) rfl (by kernel_rfl) (by kernel_rfl) (by kernel_rfl) (fun _ _ _ h => h) (Or.inl ⟨by rfl, by rintro w ⟨h1, h2⟩; go_simp⟩) hHeld ?_
      refine wpAnyH_take (i := 9) (v := .string s) rfl (by kernel_rfl) (by kernel_rfl) (by kernel_rfl) (fun _ _ _ h => h) (Or.inl ⟨by rfl, by rintro w ⟨h1, h2⟩; go_simp⟩) hHeld ?_
      refine wpAnyH_take (i := 10) (v := .agg #[.int .i64 (k : Int), .int .i64 (n : Int)]) rfl (by kernel_rfl) (by kernel_rfl) (by kernel_rfl) (fun _ _ _ h => h) (Or.inl ⟨by rfl, by rintro w ⟨h1, h2⟩; go_simp⟩) hHeld ?_
      refine wpAnyH_ready (rs := [5]) (by kernel_rfl) (by simp) ?_
      refine AllReadyH.cons rfl (fun K hK => ?_) AllReadyH.nil
      go_simp
      refine (whole_calls _ _ _ (by omega)).mono ?_
      rintro o w4 ⟨rfl, hb4⟩
      have HZ2 := Lib.hid (HZ1.out.below hb4)
      have HB5 := Lib.hid (HB4.out.trans (hb4.mono HB4.out.size))
      clear hb4 HZ1 HB4
      refine hK.out _ _ ⟨HZ2.out.c 0 rfl, HZ2.out.c 1 rfl⟩ (fun hHeld => ?_)
      clear hK K
      refine wpAnyH_ready (rs := [6]) (by kernel_rfl) (by simp) ?_
      refine AllReadyH.cons rfl (fun K hK => ?_) AllReadyH.nil
      go_simp
      refine hK.out _ _ hHeld (fun hHeld => ?_)
      clear hK K
      refine wpAnyH_ready (rs := [7]) (by kernel_rfl) (by simp) ?_
      refine AllReadyH.cons rfl (fun K hK => ?_) AllReadyH.nil
      go_simp
      have HG := Lib.hid (Lib.bytesWorld_size w4 5 P)
      have HCl := Lib.hid (fun j h => Lib.bytesWorld_cell w4 5 P j h)
      have HZ3 := Lib.hid (HZ2.out.below (Joins.below_bytesWorld w4.heap.size w4 5 P (Nat.le_refl _)))
      have HB6 := Lib.hid (HB5.out.trans (Joins.below_bytesWorld w.heap.size w4 5 P HB5.out.size))
      have hcvP := Lib.run_convert_string_bytes (P := Tryz.prog) w4 9 45 5 P Tryz.underlying9 Tryz.underlying45 Tryz.underlying5
      obtain ⟨g, hg⟩ : ∃ g, g = w4.heap.size := ⟨_, rfl⟩
      obtain ⟨cap, hcap⟩ : ∃ cap, cap = grownCap w4 P.size 0 5 := ⟨_, rfl⟩
      obtain ⟨W5, hW5⟩ : ∃ W5, W5 = Lib.bytesWorld w4 5 P := ⟨_, rfl⟩
      rw [← hg, ← hcap, ← hW5, HPn.out] at hcvP
      rw [← hg, ← hW5] at HG HCl
      rw [← hW5] at HZ3 HB6
      clear hg hcap hW5
      go_simp
      refine hK.out _ _ ⟨HZ3.out.c 0 rfl, HZ3.out.c 1 rfl⟩ (fun hHeld => ?_)
      clear hK K hcvP HZ2 HB5
      refine wpAnyH_ready (rs := [8]) (by kernel_rfl) (by simp) ?_
      refine AllReadyH.cons rfl (fun K hK => ?_) AllReadyH.nil
      go_simp
      have hArg := argument_calls k (n : Int) g cap P.data.toList W5 (by rw [size_data, HPn.out]; exact hn8) (by rw [HG.out]; omega) (fun j hj => HCl.out j (by rw [size_data] at hj; exact hj))
      rw [size_data, HPn.out] at hArg
      refine hArg.mono ?_
      clear hArg
      rintro o w6 ⟨rfl, hb6⟩
      have HZ4 := Lib.hid (HZ3.out.below hb6)
      have HB7 := Lib.hid (HB6.out.trans (hb6.mono HB6.out.size))
      clear hb6 HZ3 HB6 HG HCl
      refine hK.out _ _ ⟨HZ4.out.c 0 rfl, HZ4.out.c 1 rfl⟩ (fun hHeld => ?_)
      clear hK K
      refine wpAnyH_ready (rs := [11]) (by kernel_rfl) (by simp) ?_
      refine AllReadyH.cons rfl (fun K hK => ?_) AllReadyH.nil
      go_simp
      refine (whole_calls _ _ _ (by omega)).mono ?_
      rintro o w7 ⟨rfl, hb7⟩
      have HZ5 := Lib.hid (HZ4.out.below hb7)
      have HB8 := Lib.hid (HB7.out.trans (hb7.mono HB7.out.size))
      clear hb7 HZ4 HB7
      refine hK.out _ _ ⟨HZ5.out.c 0 rfl, HZ5.out.c 1 rfl⟩ (fun hHeld => ?_)
      clear hK K
      refine wpAnyH_take (i := 12) (v := .string R) rfl (by kernel_rfl) (by kernel_rfl) (by kernel_rfl) (fun _ _ _ h => h) (Or.inl ⟨by rfl, by rintro w ⟨h1, h2⟩; go_simp⟩) hHeld ?_
      refine wpAnyH_take (i := 13) (v := .int .i64 (j : Int)) rfl (by kernel_rfl) (by kernel_rfl) (by kernel_rfl) (fun _ _ _ h => h) (Or.inl ⟨by rfl, by rintro w ⟨h1, h2⟩; go_simp⟩) hHeld ?_
      refine wpAnyH_take (i := 14) (v := .int .i64 (k : Int)) rfl (by kernel_rfl) (by kernel_rfl) (by kernel_rfl) (fun _ _ _ h => h) (Or.inl ⟨by rfl, by rintro w ⟨h1, h2⟩; go_simp⟩) hHeld ?_
      refine wpAnyH_take (i := 15) (v := .int .u64 (argV k P.data.toList : Int)) rfl (by kernel_rfl) (by kernel_rfl) (by kernel_rfl) (fun _ _ _ h => h) (Or.inl ⟨by rfl, by rintro w ⟨h1, h2⟩; go_simp⟩) hHeld ?_
      refine wpAnyH_take (i := 16) (v := .string R) rfl (by kernel_rfl) (by kernel_rfl) (by kernel_rfl) (fun _ _ _ h => h) (Or.inl ⟨by rfl, by rintro w ⟨h1, h2⟩; go_simp⟩) hHeld ?_
      refine wpAnyH_take (i := 17) (v := .int .i64 0) rfl (by kernel_rfl) (by kernel_rfl) (by kernel_rfl) (fun _ _ _ h => h) (Or.inl ⟨by rfl, by rintro w ⟨h1, h2⟩; go_simp⟩) hHeld ?_
      refine wpAnyH_done (by kernel_rfl) ?_ _
      clear hHeld
      go_wp2
      rw [jump_retH]
      refine bodyPost_ret (v := .tuple #[.int .i64 (j : Int), .int .i64 (k : Int), .int .u64 (argV k P.data.toList : Int), .string R, .int .i64 0]) (by simp [results, Tryz.results104, go_sem, Act.put]) rfl ?_
      exact ⟨rfl, HB8.out⟩
    · rintro a w' h
      exact h.elim
theorem Read_calls (s : ByteArray) (w : World) (hT : SizT w) : Calls Tryz.prog 104 #[.string s] w fun o w' => o = .returned (rdV (readT s)) ∧ Below w.heap.size w w' := by
  by_cases h0 : s.size = 0
  · have e : readT s = (0, 0, 0, s, 100) := by rw [readT, if_pos h0]
    have es : s = ⟨#[]⟩ := str_inj (List.eq_nil_of_length_eq_zero (by rw [size_data]; exact h0))
    rw [e, es]
    exact Read_empty w
  · have h1 : 0 < s.size := by omega
    have hb : (s[0]'h1).toNat = (byteAt s 0).toNat := by rw [byteAt_eq s 0 h1]
    cases hn : nby ((byteAt s 0).toNat % 32) with
    | none =>
      have e : readT s = (0, 0, 0, s, 101) := by rw [readT, if_neg h0, hn]
      rw [e]
      exact Read_none s _ w h1 hb hn hT
    | some n =>
      by_cases h2 : s.size < 1 + n
      · have e : readT s = (0, 0, 0, s, 100) := by rw [readT, if_neg h0, hn]; exact if_pos h2
        rw [e]
        exact Read_short s _ n w h1 hb hn h2 hT
      · have e : readT s = ((byteAt s 0).toNat / 32, (byteAt s 0).toNat % 32, argV ((byteAt s 0).toNat % 32) (s.extract 1 (1 + n)).data.toList, s.extract (1 + n) s.size, 0) := by rw [readT, if_neg h0, hn]; exact if_neg h2
        rw [e]
        exact Read_yes s _ n w h1 hb hn (by omega) hT
end Go.Proofs.YtppapkpceejnkaaGreatDoor
namespace Go.Proofs.YtppapkpceejnkaaGreatDoor
open Go.RowKit

/-- A call that answers so in every world that holds the listed table, and keeps what was there. -/
abbrev AnsH (f : FuncId) (args : Array Value) (v : Value) : Prop := ∀ w, SizT w → Calls Tryz.prog f args w fun e w' => e = .returned v ∧ Below w.heap.size w w'

theorem fldI (i b : Int) (w : World) : (Instr.field 78 (.agg #[.int .i64 i, .int .i64 b]) 0).run Tryz.prog w = .ok (.int .i64 i) w := by
  simp [Instr.field, run_underlying Tryz.underlying78, go_sem, part, asAgg, Tryz.isAgg3]
/-- What Make answers. -/
def mkB (m : Int) (a : Nat) : ByteArray := if 0 ≤ m ∧ m ≤ 7 then headB m.toNat a else noB
def mkE (m : Int) : Int := if 0 ≤ m ∧ m ≤ 7 then 0 else 2
theorem Make_ans (m : Int) (a : Nat) (ha : a < 18446744073709551616) : AnsH 20 #[.int .i64 m, .int .u64 (a : Int)] (.tuple #[.string (mkB m a), .int .i64 (mkE m)]) := fun w hT => by
  by_cases h : 0 ≤ m ∧ m ≤ 7
  · rw [mkB, mkE, if_pos h, if_pos h]
    have := Make_yes m.toNat a w (by omega) ha hT
    rwa [show ((m.toNat : Nat) : Int) = m by omega] at this
  · rw [mkB, mkE, if_neg h, if_neg h]
    exact Make_no m a w (by omega)
theorem Read_ans (s : ByteArray) : AnsH 104 #[.string s] (rdV (readT s)) := fun w hT => Read_calls s w hT

/-- The first forty bytes. -/
def cutQ (s : ByteArray) : ByteArray := s.extract 0 (min s.size 40)
theorem cutQ_size (s : ByteArray) : (cutQ s).size ≤ 40 := by rw [cutQ, ByteArray.size_extract]; omega
theorem cutQ_long {s : ByteArray} (h : 40 ≤ s.size) : cutQ s = s.extract 0 40 := by rw [cutQ, Nat.min_eq_right h]
theorem cutQ_short {s : ByteArray} (h : s.size ≤ 40) : cutQ s = s := str_inj (by rw [cutQ, Nat.min_eq_left h, Lib.extract_data, List.drop_zero, Nat.sub_zero]; exact List.take_of_length_le (by rw [size_data]; exact Nat.le_refl _))
end Go.Proofs.YtppapkpceejnkaaGreatDoor
namespace Go.Proofs.YtppapkpceejnkaaGreatDoor
open Go.RowKit

theorem ext_list (s : ByteArray) (i j : Nat) : (s.extract i j).data.toList = (s.data.toList.drop i).take (j - i) := Lib.extract_data s i j
theorem app_list (a b : ByteArray) : (a ++ b).data.toList = a.data.toList ++ b.data.toList := by rw [ByteArray.data_append, Array.toList_append]
theorem headB_list (m a : Nat) : (headB m a).data.toList = headL m a := rfl
theorem first_nat {m k : Nat} (hm : m < 8) (hk : k < 32) : (UInt8.ofNat (32 * m + k)).toNat = 32 * m + k := by
  rw [UInt8.toNat_ofNat', Nat.mod_eq_of_lt (by omega)]
theorem hext_mono {a b : Nat} (h : a ≤ b) : hext a ≤ hext b := by
  unfold hext
  repeat' split
  all_goals omega
theorem lt_pow_hext {a : Nat} (ha : a < 18446744073709551616) (h24 : ¬ a < 24) : a < 256 ^ hext a := by
  have e : a < 256 ∧ hext a = 1 ∨ a < 65536 ∧ hext a = 2 ∨ a < 4294967296 ∧ hext a = 4 ∨ hext a = 8 := by
    unfold hext
    repeat' split
    all_goals omega
  rcases e with ⟨h, e⟩ | ⟨h, e⟩ | ⟨h, e⟩ | e <;> rw [e] <;> omega
theorem hext_le_of {A n : Nat} (hn : n = 1 ∨ n = 2 ∨ n = 4 ∨ n = 8) (h : A < 256 ^ n) : hext A ≤ n := by
  rcases hn with rfl | rfl | rfl | rfl
  all_goals
    unfold hext
    repeat' split
    all_goals omega
theorem hinfo_ge {a : Nat} (h : ¬ a < 24) : ¬ hinfo a < 24 := by
  unfold hinfo
  rw [if_neg h]
  repeat' split
  all_goals omega

/-- What a text begins with, whose first byte is c. -/
theorem readT_cons (s : ByteArray) (c : UInt8) (l : List UInt8) (h : s.data.toList = c :: l) : readT s = match nby (c.toNat % 32) with
    | none => (0, 0, 0, s, 101)
    | some n => if l.length < n then (0, 0, 0, s, 100) else (c.toNat / 32, c.toNat % 32, argV (c.toNat % 32) (l.take n), s.extract (1 + n) s.size, 0) := by
  have hs : s.size = l.length + 1 := by rw [← size_data, h, List.length_cons]
  have hb : byteAt s 0 = c := by rw [byteAt_list, h]; rfl
  unfold readT
  rw [if_neg (by omega), hb]
  cases hn : nby (c.toNat % 32) with
  | none => rfl
  | some n =>
    show (if s.size < 1 + n then _ else _) = (if l.length < n then _ else _)
    by_cases hl : l.length < n
    · rw [if_pos hl, if_pos (by omega)]
    · rw [if_neg hl, if_neg (by omega), ext_list, h, List.drop_one, List.tail_cons, Nat.add_sub_cancel_left]
theorem argV_head {a : Nat} (ha : a < 18446744073709551616) : argV (hinfo a) (bigL (hext a) a) = a := by
  by_cases h : a < 24
  · have e : hinfo a = a := by rw [hinfo, if_pos h]
    rw [argV, e, if_pos h]
  · rw [argV, if_neg (hinfo_ge h), valQ_big, Nat.mod_eq_of_lt (lt_pow_hext ha h)]
theorem readT_app {m a : Nat} (hm : m < 8) (ha : a < 18446744073709551616) (t : ByteArray) : readT (headB m a ++ t) = (m, hinfo a, a, t, 0) := by
  have hi := hinfo_le a
  rw [readT_cons _ (UInt8.ofNat (32 * m + hinfo a)) (bigL (hext a) a ++ t.data.toList) (by rw [app_list, headB_list, headL]; rfl), first_nat hm (by omega),
    show (32 * m + hinfo a) % 32 = hinfo a by omega, nby_info, show (32 * m + hinfo a) / 32 = m by omega]
  show (if _ < _ then _ else _) = _
  rw [if_neg (by rw [List.length_append, bigL_len]; omega)]
  have e1 : (bigL (hext a) a ++ t.data.toList).take (hext a) = bigL (hext a) a := by
    conv => lhs; arg 1; rw [← bigL_len (hext a) a]
    exact List.take_left
  have e2 : (headB m a ++ t).extract (1 + hext a) (headB m a ++ t).size = t := str_inj (by
    rw [ext_list, app_list, headB_list, ← headL_len m a, List.drop_left, List.take_of_length_le (by rw [ByteArray.size_append, headB_size, headL_len, size_data]; omega)])
  rw [e1, e2, argV_head ha]
theorem readT_cut {m a q : Nat} (hm : m < 8) (hq : q < 1 + hext a) : readT ((headB m a).extract 0 q) = (0, 0, 0, (headB m a).extract 0 q, 100) := by
  have hi := hinfo_le a
  cases q with
  | zero => rw [readT, if_pos (by rw [ByteArray.size_extract]; omega)]
  | succ q =>
    rw [readT_cons _ (UInt8.ofNat (32 * m + hinfo a)) ((bigL (hext a) a).take q) (by rw [ext_list, headB_list, headL]; rfl), first_nat hm (by omega),
      show (32 * m + hinfo a) % 32 = hinfo a by omega, nby_info]
    show (if _ < _ then _ else _) = _
    rw [if_pos (by rw [List.length_take, bigL_len]; omega)]
theorem readT_open {m : Nat} (hm : m < 8) (t : ByteArray) : readT (⟨#[UInt8.ofNat (32 * m + 31)]⟩ ++ t) = (m, 31, 0, t, 0) := by
  rw [readT_cons _ (UInt8.ofNat (32 * m + 31)) t.data.toList (by rw [app_list]; rfl), first_nat hm (by omega), show (32 * m + 31) % 32 = 31 by omega, show (32 * m + 31) / 32 = m by omega]
  show (if _ < 0 then _ else _) = _
  rw [if_neg (by omega)]
  have e2 : ((⟨#[UInt8.ofNat (32 * m + 31)]⟩ : ByteArray) ++ t).extract (1 + 0) ((⟨#[UInt8.ofNat (32 * m + 31)]⟩ : ByteArray) ++ t).size = t := str_inj (by
    rw [ext_list, app_list]
    show ((UInt8.ofNat (32 * m + 31) :: t.data.toList).drop 1).take _ = _
    rw [List.drop_one, List.tail_cons, List.take_of_length_le (by rw [ByteArray.size_append, size_data, show ((⟨#[UInt8.ofNat (32 * m + 31)]⟩ : ByteArray)).size = 1 from rfl]; omega)])
  rw [e2]
  rfl
theorem readT_bad {m i : Nat} (hm : m < 8) (hi : i = 28 ∨ i = 29 ∨ i = 30) (t : ByteArray) : readT (⟨#[UInt8.ofNat (32 * m + i)]⟩ ++ t) = (0, 0, 0, ⟨#[UInt8.ofNat (32 * m + i)]⟩ ++ t, 101) := by
  rw [readT_cons _ (UInt8.ofNat (32 * m + i)) t.data.toList (by rw [app_list]; rfl), first_nat hm (by omega), show (32 * m + i) % 32 = i by omega]
  rcases hi with rfl | rfl | rfl <;> rfl

/-- What is read of a text, with no error. -/
theorem readT_parts (s : ByteArray) : (readT s = (0, 0, 0, s, 100) ∨ readT s = (0, 0, 0, s, 101)) ∨
    ∃ j k A n, readT s = (j, k, A, s.extract (1 + n) s.size, 0) ∧ j < 8 ∧ k < 32 ∧ 1 + n ≤ s.size ∧ A < 18446744073709551616 ∧
      (k ≠ 31 → ((s.extract 0 (1 + n) = headB j A) ↔ k = hinfo A) ∧ hext A ≤ n) := by
  cases hs : s.data.toList with
  | nil =>
    have h0 : s.size = 0 := by rw [← size_data, hs]; rfl
    exact .inl (.inl (by rw [readT, if_pos h0]))
  | cons c l =>
    have hsz : s.size = l.length + 1 := by rw [← size_data, hs, List.length_cons]
    rw [readT_cons s c l hs]
    have hc := c.toNat_lt
    cases hn : nby (c.toNat % 32) with
    | none => exact .inl (.inr rfl)
    | some n =>
      show (_ ∨ _) ∨ _
      by_cases hl : l.length < n
      · exact .inl (.inl (if_pos hl))
      · refine .inr ⟨c.toNat / 32, c.toNat % 32, argV (c.toNat % 32) (l.take n), n, if_neg hl, by omega, by omega, by omega, ?_, fun h31 => ?_⟩
        · unfold argV
          split
          · omega
          · have h1 := valQ_lt (l.take n)
            have h2 : (l.take n).length ≤ 8 := by rw [List.length_take]; have := nby_le hn; omega
            have h3 : 256 ^ (l.take n).length ≤ 256 ^ 8 := Nat.pow_le_pow_right (by decide) h2
            omega
        · have hown : (s.extract 0 (1 + n)).data.toList = c :: l.take n := by
            rw [ext_list, hs, List.drop_zero, Nat.sub_zero, Nat.add_comm, List.take_succ_cons]
          have hcc : UInt8.ofNat (32 * (c.toNat / 32) + c.toNat % 32) = c := by rw [Nat.div_add_mod, UInt8.ofNat_toNat]
          have hln : (l.take n).length = n := by rw [List.length_take]; omega
          by_cases h24 : c.toNat % 32 < 24
          · have hn0 : n = 0 := by rw [nby, if_pos h24] at hn; exact (Option.some.inj hn).symm
            subst hn0
            have eA : argV (c.toNat % 32) (l.take 0) = c.toNat % 32 := by rw [argV, if_pos h24]
            have ei : hinfo (c.toNat % 32) = c.toNat % 32 := by rw [hinfo, if_pos h24]
            have ex : hext (c.toNat % 32) = 0 := by rw [hext, if_pos h24]
            rw [eA, ei, ex]
            refine ⟨⟨fun _ => rfl, fun _ => str_inj ?_⟩, Nat.le_refl _⟩
            rw [hown, headB_list, headL, ei, ex, hcc]
            rfl
          · have hn4 : n = 1 ∨ n = 2 ∨ n = 4 ∨ n = 8 := by
              unfold nby at hn
              rw [if_neg h24] at hn
              repeat' split at hn
              all_goals first | (have := Option.some.inj hn; omega) | cases hn | (exfalso; omega)
            have eA : argV (c.toNat % 32) (l.take n) = valL (l.take n) := by rw [argV, if_neg h24]
            rw [eA]
            have hlt := valQ_lt (l.take n)
            rw [hln] at hlt
            have hbig := big_val (l.take n)
            rw [hln] at hbig
            have hx := hext_le_of hn4 hlt
            refine ⟨⟨fun he => ?_, fun he => str_inj ?_⟩, hx⟩
            · have h1 : (s.extract 0 (1 + n)).data.toList = (headB (c.toNat / 32) (valL (l.take n))).data.toList := congrArg (fun b : ByteArray => b.data.toList) he
              rw [hown, headB_list, headL] at h1
              have h2 := congrArg UInt8.toNat (List.cons.inj h1).1
              have hi := hinfo_le (valL (l.take n))
              rw [first_nat (by omega) (by omega)] at h2
              omega
            · have h1 := nby_info (valL (l.take n))
              rw [← he, hn] at h1
              rw [hown, headB_list, headL, ← he, hcc, ← Option.some.inj h1, hbig]
end Go.Proofs.YtppapkpceejnkaaGreatDoor
