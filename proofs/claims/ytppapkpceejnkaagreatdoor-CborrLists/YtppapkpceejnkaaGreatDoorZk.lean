/- A node more, in memory: the walk of the append. -/
import Derived.Test.YtppapkpceejnkaaGreatDoorZj
namespace Go.Proofs.YtppapkpceejnkaaGreatDoor
open Go.RowKit

attribute [local go_sem] Oper.semAt_some

theorem row9 {w3 : World} {base g n cap : Nat} {xs : List Value} {z0 z1 z2 z3 z4 z5 z6 z7 z8 : Value} (h : w3.ownsRow base 28 9 (.slice (some ⟨g, 0, none⟩) (n + 1) cap) (n + 1) (xs ++ [z0, z1, z2, z3, z4, z5, z6, z7, z8])) (hx : xs.length = n * 9) {W' : World} (hW : W'.heap[g]? = w3.heap[g]?) :
    (W'.cell? ⟨g, n * 9, none⟩ = some z0 ∧ W'.cell? ⟨g, n * 9 + 1, none⟩ = some z1 ∧ W'.cell? ⟨g, n * 9 + 2, none⟩ = some z2 ∧ W'.cell? ⟨g, n * 9 + 3, none⟩ = some z3 ∧ W'.cell? ⟨g, n * 9 + 4, none⟩ = some z4 ∧ W'.cell? ⟨g, n * 9 + 5, none⟩ = some z5 ∧ W'.cell? ⟨g, n * 9 + 6, none⟩ = some z6 ∧ W'.cell? ⟨g, n * 9 + 7, none⟩ = some z7 ∧ W'.cell? ⟨g, n * 9 + 8, none⟩ = some z8) ∧ ∀ i, W'.frozen? ⟨g, i, none⟩ = false := by
  obtain ⟨_, ⟨h, _⟩ | ⟨g', cap', cur, h, _, hc, _, _, hsz, htk⟩⟩ := h
  · cases h
  · cases h
    have hcell : ∀ (i : Nat) (z : Value), ([z0, z1, z2, z3, z4, z5, z6, z7, z8] : List Value)[i]? = some z → W'.cell? ⟨g, n * 9 + i, none⟩ = some z := fun i z hz => by
      have hi : i < 9 := by
        rcases Nat.lt_or_ge i 9 with h | h
        · exact h
        · rw [List.getElem?_eq_none (by simpa using h)] at hz; cases hz
      have h1 : cur.toList[n * 9 + i]? = some z := by
        have h2 : (cur.toList.take ((n + 1) * 9))[n * 9 + i]? = some z := by
          rw [htk, List.getElem?_append_right (by omega), hx, Nat.add_sub_cancel_left]
          exact hz
        rwa [List.getElem?_take_of_lt (by omega)] at h2
      have h3 := hW.trans hc
      simp only [World.cell?, h3]
      rw [Array.getElem?_toList] at h1
      simpa using h1
    exact ⟨⟨hcell 0 _ rfl, hcell 1 _ rfl, hcell 2 _ rfl, hcell 3 _ rfl, hcell 4 _ rfl, hcell 5 _ rfl, hcell 6 _ rfl, hcell 7 _ rfl, hcell 8 _ rfl⟩, fun i => frozen_of_row W' g i _ _ (hW.trans hc)⟩
theorem nx_off {W : World} {B C i : Nat} {h : Hd} {v u : Value} (hx : Nx W B h v) (hne : B ≠ C) : Nx (W.setCell ⟨C, i, none⟩ u) B h v := Bx.off hx hne
set_option maxRecDepth 100000 in
set_option maxHeartbeats 6000000 in
theorem nd_region {V : World} {r0 C n cU c' N l' : Nat} {AU A' : Option Addr} {ys : List Value} {h' : Hd} {k' : Fo} {kind : Int} {v0 v1 v2 v3 v4 v5 v6 v7 v8 v9 v11 v13 v14 v15 v16 v17 v18 v19 v20 v21 v22 v23 : Value} {Q : Exit → Act → World → Prop} (hno : ¬ LetsOut Q) (hpn : ∀ c a a' w, Q (.panic c) a w → Q (.panic c) a' w) (hnl : n < 1000000)
    (HO : Hid (V.ownsRow (r0 + 4) 28 9 (.slice AU n cU) n ys)) (HX : Hid (Nx V.drew C h' (.slice A' k'.len c'))) (HN : Hid (Nx V.drew (r0 + 1 + 1) (kiH kind) (.slice AU n cU))) (hneC : (Value.slice AU n cU).ownBlock ≠ some C) (hzw : r0 + 3 < V.heap.size) (hlC : C < V.heap.size) (i1 : r0 + 4 ≤ C)
    (HEnd : Hid (∀ (V' : World) (a' : Act) (g' cap : Nat), (∀ i, i < V.heap.size → i ≠ r0 + 1 + 1 → (Value.slice AU n cU).ownBlock ≠ some i → V'.heap[i]? = V.heap[i]?) → V.heap.size ≤ V'.heap.size → Nx V' (r0 + 1 + 1) (kiH kind) (.slice (some ⟨g', 0, none⟩) (n + 1) cap) → V'.ownsRow (r0 + 4) 28 9 (.slice (some ⟨g', 0, none⟩) (n + 1) cap) (n + 1) (ys ++ (h'.cells (.slice A' k'.len c')).toList) → Below r0 V V' → ((Value.slice AU n cU).ownBlock = some g' ∨ g' = (V.drew.alloc (.cells #[.int .i64 0, .bool false, .bool false, .string ⟨#[]⟩, .int .i64 0, .int .u64 0, .int .i64 0, .string ⟨#[]⟩, .slice none 0 0] 28)).heap.size) → Q .normal a' V')) :
    (Code.region 8 #[{ dst := some 25, op := Op.fieldAddr 28 (Operand.tmp 10) 6, type := 0, pos := "reader.go:144", after := #[], guard := none }, { dst := some 26, op := Op.load 26 (Operand.tmp 25), type := 26, pos := "reader.go:144", after := #[{ on := 0, ground := Ground.data }], guard := none }, { dst := some 27, op := Op.load 28 (Operand.tmp 12), type := 28, pos := "reader.go:144", after := #[], guard := none }, { dst := some 28, op := Op.call { callee := Callee.builtin Builtin.len, args := #[Operand.tmp 26], argTypes := #[26] }, type := 3, pos := "reader.go:144", after := #[{ on := 1, ground := Ground.data }], guard := none }, { dst := some 29, op := Op.buildSlice 26 1 #[(0, Operand.const (Value.agg #[Value.int IntKind.i64 0, Value.bool false, Value.bool false, Value.string { data := #[] }, Value.int IntKind.i64 0, Value.int IntKind.u64 0, Value.int IntKind.i64 0, Value.string { data := #[] }, Value.slice none 0 0]))], type := 26, pos := "reader.go:144", after := #[], guard := none }, { dst := some 30, op := Op.call { callee := Callee.builtin Builtin.append, args := #[Operand.tmp 26, Operand.tmp 29], argTypes := #[26, 26] }, type := 26, pos := "reader.go:144", after := #[{ on := 1, ground := Ground.data }, { on := 4, ground := Ground.data }, { on := 0, ground := Ground.phase }, { on := 1, ground := Ground.phase }, { on := 2, ground := Ground.phase }, { on := 3, ground := Ground.phase }, { on := 4, ground := Ground.phase }], guard := none }, { dst := some 31, op := Op.indexAddr 26 (Operand.tmp 30) (Operand.tmp 28), type := 0, pos := "reader.go:144", after := #[{ on := 5, ground := Ground.data }, { on := 3, ground := Ground.data }, { on := 0, ground := Ground.phase }, { on := 1, ground := Ground.phase }, { on := 2, ground := Ground.phase }, { on := 3, ground := Ground.phase }, { on := 4, ground := Ground.phase }, { on := 5, ground := Ground.phase }, { on := 9, ground := Ground.gcOnly Departure.appendInPlace }], guard := none }, { dst := none, op := Op.store 28 (Operand.tmp 31) (Operand.tmp 27), type := 0, pos := "reader.go:144", after := #[{ on := 6, ground := Ground.data }, { on := 2, ground := Ground.data }, { on := 5, ground := Ground.chain }, { on := 0, ground := Ground.phase }, { on := 1, ground := Ground.phase }, { on := 2, ground := Ground.phase }, { on := 3, ground := Ground.phase }, { on := 4, ground := Ground.phase }, { on := 5, ground := Ground.phase }, { on := 9, ground := Ground.gcOnly Departure.appendInPlace }], guard := none }, { dst := some 32, op := Op.fieldAddr 28 (Operand.tmp 10) 6, type := 0, pos := "reader.go:144", after := #[{ on := 0, ground := Ground.phase }, { on := 1, ground := Ground.phase }, { on := 2, ground := Ground.phase }, { on := 3, ground := Ground.phase }, { on := 4, ground := Ground.phase }, { on := 5, ground := Ground.phase }, { on := 6, ground := Ground.textOnly Departure.appendInPlace }, { on := 7, ground := Ground.textOnly Departure.appendInPlace }], guard := none }, { dst := none, op := Op.store 26 (Operand.tmp 32) (Operand.tmp 30), type := 0, pos := "reader.go:144", after := #[{ on := 8, ground := Ground.data }, { on := 5, ground := Ground.data }, { on := 5, ground := Ground.chain }, { on := 7, ground := Ground.textOnly Departure.appendInPlace }, { on := 0, ground := Ground.phase }, { on := 1, ground := Ground.phase }, { on := 2, ground := Ground.phase }, { on := 3, ground := Ground.phase }, { on := 4, ground := Ground.phase }, { on := 5, ground := Ground.phase }, { on := 6, ground := Ground.textOnly Departure.appendInPlace }, { on := 7, ground := Ground.textOnly Departure.appendInPlace }], guard := none }] true).wpIn (Fence.wide.inRound l') N Tryz.prog Q { tmps := #[v0, v1, v2, v3, v4, v5, v6, v7, v8, v9, .pointer (some ⟨r0 + 1 + 1, 0, none⟩), v11, .pointer (some ⟨C, 0, none⟩), v13, v14, v15, v16, v17, v18, v19, v20, v21, v22, v23, undef, undef, undef, undef, undef, undef, undef, undef, undef, undef, undef, undef, undef, undef], defers := [] } V := by
  obtain ⟨i0, hi0, hz0, hz1, hz2⟩ := infoN_parts
  have hHeld : (fun w' : World => w'.cell? ⟨C, 0, none⟩ = some (.int .i64 h'.kind) ∧ w'.cell? ⟨C, 1, none⟩ = some (.bool h'.b) ∧ w'.cell? ⟨C, 2, none⟩ = some (.bool h'.neg) ∧ w'.cell? ⟨C, 3, none⟩ = some (.string h'.dig) ∧ w'.cell? ⟨C, 4, none⟩ = some (.int .i64 h'.exp) ∧ w'.cell? ⟨C, 5, none⟩ = some (.int .u64 (h'.u : Int)) ∧ w'.cell? ⟨C, 6, none⟩ = some (.int .i64 h'.w) ∧ w'.cell? ⟨C, 7, none⟩ = some (.string h'.s) ∧ w'.cell? ⟨C, 8, none⟩ = some (.slice A' k'.len c')) V.drew := HX.out.nine
  obtain ⟨g', cap, w3, hrun, hown3, hg3, hgg, hgl⟩ := run_append_lies (P := Tryz.prog) (V.drew.alloc (.cells #[.int .i64 0, .bool false, .bool false, .string ⟨#[]⟩, .int .i64 0, .int .u64 0, .int .i64 0, .string ⟨#[]⟩, .slice none 0 0] 28)) 26 26 (r0 + 4) 28 i0 _ 9 104 Tryz.underlying26 hi0 hz0 hz1 hz2 rfl (by decide) (.slice AU n cU) n ys ((show V.drew.ownsRow _ _ _ _ _ _ from HO.out).alloc _) ⟨V.drew.heap.size, 0, none⟩ 1 1 (#[.int .i64 0, .bool false, .bool false, .string ⟨#[]⟩, .int .i64 0, .int .u64 0, .int .i64 0, .string ⟨#[]⟩, .slice none 0 0] : Array Value).toList rfl (news_blk _ (heap_alloc_new V.drew _)) (by intro u hu; simp only [List.mem_cons, List.not_mem_nil, or_false] at hu; rcases hu with rfl | rfl | rfl | rfl | rfl | rfl | rfl | rfl | rfl <;> rfl) (by decide) (by unfold maxLen; omega) (by omega) (by rw [World.size_alloc]; have h5 : V.drew.heap.size = V.heap.size := rfl; omega) _ rfl
  have hds : V.drew.heap.size = V.heap.size := rfl
  have hgB : r0 + 4 ≤ g' := by
    obtain ⟨_, ⟨h, _⟩ | ⟨g2, _, _, h, h', _⟩⟩ := hown3
    · cases h
    · cases h; exact h'
  have hgC : C ≠ g' := by
    rintro rfl
    rcases hgg with h | h
    · exact hneC h
    · rw [World.size_alloc] at h; omega
  have HC3 := Lib.hid (show Nx w3 C h' (.slice A' k'.len c') from (hg3.block C (by simp; omega) (fun e => hneC e.symm)).trans (HX.out.alloc _))
  have HN3 := Lib.hid (show Nx w3 (r0 + 1 + 1) (kiH kind) (.slice AU n cU) from (hg3.block _ (by simp; omega) (fun e => by have := (owns_block HO.out e.symm).1; omega)).trans (HN.out.alloc _))
  have hxl : ys.length = n * 9 := HO.out.1
  have HO3 := Lib.hid hown3
  have HG3 := Lib.hid hg3
  have HGg := Lib.hid hgg
  have HRow := Lib.hid (fun (W' : World) (hW' : W'.heap[g']? = w3.heap[g']?) => row9 HO3.out hxl hW')
  have s0 : V.drew.cell? ⟨r0 + 1 + 1, 8, none⟩ = some (.slice AU n cU) := HN.out.c8
  have s2 : V.cell? ⟨r0 + 1 + 1, 8, none⟩ = some (.slice AU n cU) := HN.out.c8
  have s3 : r0 + 1 + 1 < V.heap.size := by omega
  have s1 : (V.drew.alloc (.cells #[.int .i64 0, .bool false, .bool false, .string ⟨#[]⟩, .int .i64 0, .int .u64 0, .int .i64 0, .string ⟨#[]⟩, .slice none 0 0] 28)).cell? ⟨r0 + 1 + 1, 8, none⟩ = some (.slice AU n cU) := (HN.out.alloc _).c8
  have HB3 : Hid (Below r0 V w3) := Lib.hid (by
    refine Below.grown (Below.alloc ((Below.refl r0 V).drew) ?_ _) HG3.out ?_ ?_
    · have h5 : V.drew.heap.size = V.heap.size := rfl
      omega
    · rw [World.size_alloc]; omega
    · intro r e
      have := (owns_block HO.out e).1
      omega)
  have HF3 : Hid (∀ i, i < V.heap.size → (Value.slice AU n cU).ownBlock ≠ some i → w3.heap[i]? = V.heap[i]?) := Lib.hid (fun i h1 h2 => (HG3.out.block i (by rw [World.size_alloc]; omega) (fun e => h2 e.symm)).trans (Below.heap_alloc V.drew _ i h1))
  have HS3 : Hid (V.heap.size ≤ w3.heap.size) := Lib.hid (by have := HG3.out.size; rw [World.size_alloc] at this; omega)
  have HNg : Hid (∀ i, i < V.heap.size → (Value.slice AU n cU).ownBlock ≠ some i → i ≠ g') := Lib.hid (by
    rintro i h1 h2 rfl
    rcases HGg.out with h | h
    · exact h2 h
    · rw [World.size_alloc] at h; omega)
  have hg2 : r0 + 1 + 1 ≠ g' := by omega
  have hCn : C ≠ r0 + 1 + 1 := by omega
  refine region_round hmx (by kernel_rfl) hno ?_
  refine wpAny_of_held (S := fun w' => w'.cell? ⟨C, 0, none⟩ = some (.int .i64 h'.kind) ∧ w'.cell? ⟨C, 1, none⟩ = some (.bool h'.b) ∧ w'.cell? ⟨C, 2, none⟩ = some (.bool h'.neg) ∧ w'.cell? ⟨C, 3, none⟩ = some (.string h'.dig) ∧ w'.cell? ⟨C, 4, none⟩ = some (.int .i64 h'.exp) ∧ w'.cell? ⟨C, 5, none⟩ = some (.int .u64 (h'.u : Int)) ∧ w'.cell? ⟨C, 6, none⟩ = some (.int .i64 h'.w) ∧ w'.cell? ⟨C, 7, none⟩ = some (.string h'.s) ∧ w'.cell? ⟨C, 8, none⟩ = some (.slice A' k'.len c')) _ _ _ _ ?_
  refine wpAnyH_take (i := 0) (v := .pointer (some ⟨r0 + 1 + 1, 8, none⟩)) rfl (by kernel_rfl) (by kernel_rfl) (by kernel_rfl) (fun _ _ _ h => hpn _ _ _ _ h) (Or.inl ⟨by rfl, by rintro w ⟨h0, h1, h2, h3, h4, h5, h6, h7, h8⟩; go_simp⟩) hHeld ?_
  refine wpAnyH_take (i := 2) (v := .agg #[.int .i64 h'.kind, .bool h'.b, .bool h'.neg, .string h'.dig, .int .i64 h'.exp, .int .u64 (h'.u : Int), .int .i64 h'.w, .string h'.s, .slice A' k'.len c']) rfl (by kernel_rfl) (by kernel_rfl) (by kernel_rfl) (fun _ _ _ h => hpn _ _ _ _ h) (Or.inl ⟨by rfl, by rintro w ⟨h0, h1, h2, h3, h4, h5, h6, h7, h8⟩; go_simp⟩) hHeld ?_
  refine wpAnyH_ready (rs := [1, 4]) (by kernel_rfl) (by simp) ?_
  refine AllReadyH.cons rfl (fun K hK => ?_) (AllReadyH.cons rfl (fun K hK => ?_) AllReadyH.nil)
  case' refine_1 =>
    go_simp
    refine hK.out _ _ hHeld (fun hHeld => ?_)
    clear hK K
    refine wpAnyH_take (i := 3) (v := .int .i64 (n : Int)) rfl (by kernel_rfl) (by kernel_rfl) (by kernel_rfl) (fun _ _ _ h => hpn _ _ _ _ h) (Or.inl ⟨by rfl, by rintro w ⟨h0, h1, h2, h3, h4, h5, h6, h7, h8⟩; go_simp⟩) hHeld ?_
    refine wpAnyH_ready (rs := [4]) (by kernel_rfl) (by simp) ?_
    refine AllReadyH.cons rfl (fun K hK => ?_) AllReadyH.nil
    go_simp
    refine hK.out _ _ (HX.out.alloc _).nine (fun hHeld => ?_)
    clear hK K
  case' refine_2 =>
    go_simp
    refine hK.out _ _ (HX.out.alloc _).nine (fun hHeld => ?_)
    clear hK K
    refine wpAnyH_ready (rs := [1]) (by kernel_rfl) (by simp) ?_
    refine AllReadyH.cons rfl (fun K hK => ?_) AllReadyH.nil
    go_simp
    refine hK.out _ _ (HX.out.alloc _).nine (fun hHeld => ?_)
    clear hK K
    refine wpAnyH_take (i := 3) (v := .int .i64 (n : Int)) rfl (by kernel_rfl) (by kernel_rfl) (by kernel_rfl) (fun _ _ _ h => hpn _ _ _ _ h) (Or.inl ⟨by rfl, by rintro w ⟨h0, h1, h2, h3, h4, h5, h6, h7, h8⟩; go_simp⟩) hHeld ?_
  all_goals
    refine wpAnyH_ready (rs := [5]) (by kernel_rfl) (by simp) ?_
    refine AllReadyH.cons rfl (fun K hK => ?_) AllReadyH.nil
    refine step_append_run (v := .slice AU n cU) (u := .slice (some ⟨V.drew.heap.size, 0, none⟩) 1 1) rfl rfl (by go_simp) (by go_simp) hrun ?_
    refine hK.out _ _ HC3.out.nine (fun hHeld => ?_)
    clear hK K
    refine wpAnyH_take (i := 6) (v := .pointer (some ⟨g', n * 9, none⟩)) rfl (by kernel_rfl) (by kernel_rfl) (by kernel_rfl) (fun _ _ _ h => hpn _ _ _ _ h) (Or.inl ⟨by rfl, by rintro w ⟨h0, h1, h2, h3, h4, h5, h6, h7, h8⟩; go_simp; intro h; exfalso; omega⟩) hHeld ?_
    refine wpAnyH_take (i := 8) (v := .pointer (some ⟨r0 + 1 + 1, 8, none⟩)) rfl (by kernel_rfl) (by kernel_rfl) (by kernel_rfl) (fun _ _ _ h => hpn _ _ _ _ h) (Or.inl ⟨by rfl, by rintro w ⟨h0, h1, h2, h3, h4, h5, h6, h7, h8⟩; go_simp⟩) hHeld ?_
    refine wpAnyH_ready (rs := [7, 9]) (by kernel_rfl) (by simp) ?_
    refine AllReadyH.cons rfl (fun K hK => ?_) (AllReadyH.cons rfl (fun K hK => ?_) AllReadyH.nil)
    · have hgw : g' < w3.heap.size := hgl
      obtain ⟨⟨e0, e1, e2, e3, e4, e5, e6, e7, e8⟩, ef⟩ := HRow.out w3 rfl
      have f0 := ef (n * 9)
      have f1 := ef (n * 9 + 1)
      have f2 := ef (n * 9 + 2)
      have f3 := ef (n * 9 + 3)
      have f4 := ef (n * 9 + 4)
      have f5 := ef (n * 9 + 5)
      have f6 := ef (n * 9 + 6)
      have f7 := ef (n * 9 + 7)
      have f8 := ef (n * 9 + 8)
      clear ef
      go_simp
      clear e0 e1 e2 e3 e4 e5 e6 e7 e8 f0 f1 f2 f3 f4 f5 f6 f7 f8
      obtain ⟨W5, hW5⟩ : ∃ W5, W5 = setR w3 g' (n * 9) (.int .i64 h'.kind) (.bool h'.b) (.bool h'.neg) (.string h'.dig) (.int .i64 h'.exp) (.int .u64 (h'.u : Int)) (.int .i64 h'.w) (.string h'.s) (.slice A' k'.len c') := ⟨_, rfl⟩
      have HC4 := Lib.hid (show Nx W5 C h' (.slice A' k'.len c') from by rw [hW5]; exact (setR_other (.int .i64 h'.kind) (.bool h'.b) (.bool h'.neg) (.string h'.dig) (.int .i64 h'.exp) (.int .u64 (h'.u : Int)) (.int .i64 h'.w) (.string h'.s) (.slice A' k'.len c') hgC).trans HC3.out)
      have HN4 := Lib.hid (show Nx W5 (r0 + 1 + 1) (kiH kind) (.slice AU n cU) from by rw [hW5]; exact (setR_other (.int .i64 h'.kind) (.bool h'.b) (.bool h'.neg) (.string h'.dig) (.int .i64 h'.exp) (.int .u64 (h'.u : Int)) (.int .i64 h'.w) (.string h'.s) (.slice A' k'.len c') hg2).trans HN3.out)
      have HE5 := Lib.hid hW5
      simp only [setR] at hW5
      rw [← hW5]
      clear hW5
      refine hK.out _ _ HC4.out.nine (fun hHeld => ?_)
      clear hK K
      refine wpAnyH_ready (rs := [9]) (by kernel_rfl) (by simp) ?_
      refine AllReadyH.cons rfl (fun K hK => ?_) AllReadyH.nil
      have e8 := HN4.out.c8
      have f8 := Bx.f HN4.out 8
      have l8 := HN4.out.lt
      go_simp
      refine hK.out _ _ (nx_off HC4.out hCn).nine (fun hHeld => ?_)
      clear hK K
      refine wpAnyH_done (by kernel_rfl) ?_ _
      clear hHeld e8 f8 l8
      refine HEnd.out _ _ g' cap ?_ ?_ (Bx.set HN4.out 8 _) ?_ ?_ HGg.out
      · intro i h1 h2 h3
        rw [Below.heap_setCell _ ⟨r0 + 1 + 1, 8, none⟩ _ i h2, HE5.out, setR_other (.int .i64 h'.kind) (.bool h'.b) (.bool h'.neg) (.string h'.dig) (.int .i64 h'.exp) (.int .u64 (h'.u : Int)) (.int .i64 h'.w) (.string h'.s) (.slice A' k'.len c') (HNg.out i h1 h3)]
        exact HF3.out i h1 h3
      · rw [World.size_setCell, HE5.out, size_setR]
        exact HS3.out
      · have h1 := owns_setR (.int .i64 h'.kind) (.bool h'.b) (.bool h'.neg) (.string h'.dig) (.int .i64 h'.exp) (.int .u64 (h'.u : Int)) (.int .i64 h'.w) (.string h'.s) (.slice A' k'.len c') HO3.out hxl (W' := w3) rfl
        rw [← HE5.out] at h1
        exact ownsRow_setCell_below h1 (show r0 + 1 + 1 < r0 + 4 by omega) _
      · refine Below.setCell ?_ (show r0 ≤ r0 + 1 + 1 by omega) _
        rw [HE5.out]
        exact below_setR (.int .i64 h'.kind) (.bool h'.b) (.bool h'.neg) (.string h'.dig) (.int .i64 h'.exp) (.int .u64 (h'.u : Int)) (.int .i64 h'.w) (.string h'.s) (.slice A' k'.len c') HB3.out (by omega)
    · have hgw : g' < w3.heap.size := hgl
      have e8 := HN3.out.c8
      have f8 := Bx.f HN3.out 8
      have l8 := HN3.out.lt
      go_simp
      clear e8 f8 l8
      obtain ⟨W5, hW5⟩ : ∃ W5, W5 = w3.setCell ⟨r0 + 1 + 1, 8, none⟩ (.slice (some ⟨g', 0, none⟩) (n + 1) cap) := ⟨_, rfl⟩
      have HC4 := Lib.hid (show Nx W5 C h' (.slice A' k'.len c') from by rw [hW5]; exact Bx.off HC3.out hCn)
      have HN4 := Lib.hid (show Nx W5 (r0 + 1 + 1) (kiH kind) (.slice (some ⟨g', 0, none⟩) (n + 1) cap) from by rw [hW5]; exact Bx.set HN3.out 8 _)
      have hg5 : W5.heap[g']? = w3.heap[g']? := by rw [hW5]; exact Below.heap_setCell _ ⟨r0 + 1 + 1, 8, none⟩ _ g' hg2.symm
      have hgw5 : g' < W5.heap.size := by rw [hW5, World.size_setCell]; exact hgw
      have HE5 := Lib.hid hW5
      rw [← hW5]
      clear hW5
      refine hK.out _ _ HC4.out.nine (fun hHeld => ?_)
      clear hK K
      refine wpAnyH_ready (rs := [7]) (by kernel_rfl) (by simp) ?_
      refine AllReadyH.cons rfl (fun K hK => ?_) AllReadyH.nil
      obtain ⟨⟨e0, e1, e2, e3, e4, e5, e6, e7, e8⟩, ef⟩ := HRow.out W5 hg5
      have f0 := ef (n * 9)
      have f1 := ef (n * 9 + 1)
      have f2 := ef (n * 9 + 2)
      have f3 := ef (n * 9 + 3)
      have f4 := ef (n * 9 + 4)
      have f5 := ef (n * 9 + 5)
      have f6 := ef (n * 9 + 6)
      have f7 := ef (n * 9 + 7)
      have f8 := ef (n * 9 + 8)
      clear ef
      go_simp
      clear e0 e1 e2 e3 e4 e5 e6 e7 e8 f0 f1 f2 f3 f4 f5 f6 f7 f8
      obtain ⟨W6, hW6⟩ : ∃ W6, W6 = setR W5 g' (n * 9) (.int .i64 h'.kind) (.bool h'.b) (.bool h'.neg) (.string h'.dig) (.int .i64 h'.exp) (.int .u64 (h'.u : Int)) (.int .i64 h'.w) (.string h'.s) (.slice A' k'.len c') := ⟨_, rfl⟩
      have HC6 := Lib.hid (show Nx W6 C h' (.slice A' k'.len c') from by rw [hW6]; exact (setR_other (.int .i64 h'.kind) (.bool h'.b) (.bool h'.neg) (.string h'.dig) (.int .i64 h'.exp) (.int .u64 (h'.u : Int)) (.int .i64 h'.w) (.string h'.s) (.slice A' k'.len c') hgC).trans HC4.out)
      have HN6 := Lib.hid (show Nx W6 (r0 + 1 + 1) (kiH kind) (.slice (some ⟨g', 0, none⟩) (n + 1) cap) from by rw [hW6]; exact (setR_other (.int .i64 h'.kind) (.bool h'.b) (.bool h'.neg) (.string h'.dig) (.int .i64 h'.exp) (.int .u64 (h'.u : Int)) (.int .i64 h'.w) (.string h'.s) (.slice A' k'.len c') hg2).trans HN4.out)
      have HE6 := Lib.hid hW6
      simp only [setR] at hW6
      rw [← hW6]
      clear hW6
      refine hK.out _ _ HC6.out.nine (fun hHeld => ?_)
      clear hK K
      refine wpAnyH_done (by kernel_rfl) ?_ _
      clear hHeld
      refine HEnd.out _ _ g' cap ?_ ?_ HN6.out ?_ ?_ HGg.out
      · intro i h1 h2 h3
        rw [HE6.out, setR_other (.int .i64 h'.kind) (.bool h'.b) (.bool h'.neg) (.string h'.dig) (.int .i64 h'.exp) (.int .u64 (h'.u : Int)) (.int .i64 h'.w) (.string h'.s) (.slice A' k'.len c') (HNg.out i h1 h3), HE5.out, Below.heap_setCell _ ⟨r0 + 1 + 1, 8, none⟩ _ i h2]
        exact HF3.out i h1 h3
      · rw [HE6.out, size_setR, HE5.out, World.size_setCell]
        exact HS3.out
      · rw [HE6.out]
        exact owns_setR (.int .i64 h'.kind) (.bool h'.b) (.bool h'.neg) (.string h'.dig) (.int .i64 h'.exp) (.int .u64 (h'.u : Int)) (.int .i64 h'.w) (.string h'.s) (.slice A' k'.len c') HO3.out hxl (W' := W5) hg5
      · rw [HE6.out]
        refine below_setR (.int .i64 h'.kind) (.bool h'.b) (.bool h'.neg) (.string h'.dig) (.int .i64 h'.exp) (.int .u64 (h'.u : Int)) (.int .i64 h'.w) (.string h'.s) (.slice A' k'.len c') ?_ (by omega)
        rw [HE5.out]
        exact Below.setCell HB3.out (show r0 ≤ r0 + 1 + 1 by omega) _
end Go.Proofs.YtppapkpceejnkaaGreatDoor
