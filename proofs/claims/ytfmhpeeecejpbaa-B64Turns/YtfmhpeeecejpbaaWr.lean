/- The walk of write. -/
import Derived.Test.YtfmhpeeecejpbaaWr1
import Derived.Test.YtfmhpeeecejpbaaRn
import Derived.Deep.RegionHeld3
namespace Go.Proofs.Ytfmhpeeecejpbaa
open Go.RowKit Go.Shelf

attribute [local go_sem] Oper.semAt_some

/-- What write leaves. -/
def WrPost (f : Nat → Nat) (X : List Nat) (w : World) (e : Ending) (w' : World) : Prop := e = .returned (.tuple #[.string ⟨(X.map fun n => UInt8.ofNat (f n)).toArray⟩, .int .i64 0]) ∧ Below w.heap.size w w'

set_option maxRecDepth 100000 in
set_option maxHeartbeats 1000000 in
theorem write_yes (wd : Nat) (f : Nat → Nat) (A : Array Value) (hA : Alph wd f A) (s : ByteArray) (w : World) (hs : s.size ≤ 400) :
    Calls Try.prog 21 #[.agg A, .string s] w (WrPost f ((foldR 8 wd (s.data.toList.map (·.toNat))).1 ++ fillL wd (foldR 8 wd (s.data.toList.map (·.toNat)))) w) := by
  obtain ⟨C, hC⟩ : ∃ C, C = (s.size * 8 + wd - 1) / wd := ⟨_, rfl⟩
  have hC1 : C ≤ 1000 := by
    have h1 := hA.pos
    have h2 := hA.le
    rw [hC]
    have : (s.size * 8 + wd - 1) / wd < 1001 := by rw [Nat.div_lt_iff_lt_mul (by omega)]; omega
    omega
  have LF := fun W => lettersFor_calls wd f A hA s.size (by omega) W
  rw [← hC] at LF
  have HLF := Lib.hid LF
  have HA := Lib.hid hA
  clear hA hC LF
  have hb := box_alph w A
  have hd : decide ((400 : Int) < (s.size : Int)) = false := by simp; omega
  have hcw : (w.alloc (.cells A 32)).cell? ⟨w.heap.size, 0, none⟩ = some (.int .u64 (wd : Int)) := (AtA.cell (heap_alloc_last w _) 0).trans HA.out.width
  have hmx : Try.prog.follows .mixedOrders = true := by kernel_rfl
  have hmk := fun W => run_make_bytes W C (by omega)
  have hcv := fun W => Lib.run_convert_string_bytes (P := Try.prog) W 9 35 5 s Try.underlying9 Try.underlying35 Try.underlying5
  refine (callsIn_wide (n := 5)).1 ?_
  refine callsIn_of_wp_marks Try.func21 rfl trivial ?_ rfl
  simp only [Try.ntmps21, List.size_toArray, List.length_cons, List.length_nil, Nat.reduceAdd, Nat.reduceSub, Array.replicate_succ, Array.replicate_zero, List.push_toArray, List.append_toArray, List.nil_append, List.cons_append]
  refine wpIn_wide.2 ?_
  go_wp2_with (first | (refine wpList_load_row rfl 32 _ rfl w.heap.size rfl 32 A (0, 0) _ (heap_alloc2_old w _ _) Try.underlying32 rfl (by rw [size32, HA.out.size]) ?_) | (go_at_call 26; refine (HLF.out _).mono ?_; rintro e w' ⟨rfl, rfl⟩))
  obtain ⟨W5, h5⟩ : ∃ W5, W5 = ((((w.alloc (.cells A 32)).alloc (.cells #[.int .u32 0, .int .u64 0, .int .u64 8, .int .u64 (wd : Int)] 41)).alloc (.cells A 32)).alloc (rowB C)).alloc (.cells #[.slice (some ⟨w.heap.size + 3, 0, none⟩) 0 C] 35) := ⟨_, rfl⟩
  simp only [Nat.add_assoc, Nat.reduceAdd]
  rw [← h5]
  obtain ⟨cap, hcap⟩ : ∃ cap, cap = grownCap W5 s.size 0 5 := ⟨_, rfl⟩
  rw [← hcap]
  clear hcap hmk hcv hb hcw
  have s6 : (Lib.bytesWorld W5 5 s).heap.size = w.heap.size + 6 := by rw [Lib.bytesWorld_size, h5]; simp
  refine (callsIn_wide.1 (digits_in 5 _ _ _ (some ⟨w.heap.size + 5, 0, none⟩) s.size cap rfl)).mono ?_
  rintro e W7 ⟨rfl, h7⟩
  have HL := Lib.hid (laidW w A wd C cap s hC1 W5 W7 h5 h7)
  rw [s6]
  clear h5 h7 s6
  go_wp2
  refine (wpIn_wide (n := 5)).1 ?_
  have h7s := HL.out.size
  have H7s := Lib.hid h7s
  have hwl := HA.out.le
  have hwp := HA.out.pos
  have h64 : 2 ^ wd ≤ 2 ^ 6 := Nat.pow_le_pow_right (by decide) hwl
  have H64 := Lib.hid h64
  clear h7s h64
  obtain ⟨L, hL⟩ : ∃ L, L = s.data.toList.map (·.toNat) := ⟨_, rfl⟩
  have hLl : L.length = s.size := by rw [hL, List.length_map, size_data]
  have HLl := Lib.hid hLl
  have hLb : ∀ x ∈ L, x < 2 ^ 8 := by
    intro x hx
    rw [hL] at hx
    obtain ⟨c, _, rfl⟩ := List.mem_map.1 hx
    exact c.toNat_lt
  have HLb := Lib.hid hLb
  have HLe := Lib.hid hL
  clear hLl hLb hL
  refine range_turns (α := NX wd) (N := 3 * L.length) (B := w.heap.size + 1) (by omega) (gf := 30) (lb := #[.pointer (some ⟨w.heap.size + 7, 0, none⟩), .pointer (some ⟨w.heap.size + 6, 0, none⟩)]) rfl (enters_of Try.func30 (by kernel_rfl) rfl)
    (encs := fun x => #[.int .u8 (x.1 : Int)]) (Kp := Kpt (fun k => (k = w.heap.size + 5 ∨ k = w.heap.size + 6 ∨ k = w.heap.size + 7) ∨ k = w.heap.size + 1)) (S := fun xs => xs.map (·.1) = (foldR 8 wd L).1) (T := fun W => Rdr W (w.heap.size + 1) 8 wd (foldR 8 wd L).2.1 (foldR 8 wd L).2.2)
    (by rw [H7s.out]; omega)
    (fun l J W hW hJ hY h0 => ?hit) Kpt.trans ?book (fun _ => rfl)
    (fun pre W => OutB W (w.heap.size + 4) w.heap.size (fun k => k = w.heap.size ∨ k = w.heap.size + 1 ∨ k = w.heap.size + 5 ∨ k = w.heap.size + 6 ∨ k = w.heap.size + 7) (pre.map fun x => UInt8.ofNat (f x.1)) ∧ AtA W w.heap.size A ∧ Below w.heap.size w W ∧ w.heap.size + 8 ≤ W.heap.size)
    ?own ?turn ?fin ⟨HL.out.out, HL.out.alph, HL.out.below, by rw [H7s.out]; omega⟩ ?a1 ?assign ?body ?done
  case hit =>
    refine (dg1_in 4 (by decide) l (w.heap.size + 7) (w.heap.size + 6) (w.heap.size + 1) (w.heap.size + 5) 0 cap 8 wd (fun k => k = w.heap.size + 5 ∨ k = w.heap.size + 6 ∨ k = w.heap.size + 7) L (by rw [HLl.out]; omega) (by decide) hwp (by omega) HLb.out (.inl rfl) (.inr (.inr rfl)) (.inr (.inl rfl)) (by omega) J hY hJ W ?_ ?_ ?_ ?_ ?_ h0).mono ?_
    · intro k hk
      have h1 := hW.size
      rw [H7s.out] at h1
      omega
    · rw [HLl.out]; exact (hW.cell (p := ⟨w.heap.size + 7, 0, none⟩) (by simp only; rw [H7s.out]; omega)).trans HL.out.num.cell
    · exact (hW.cell (p := ⟨w.heap.size + 6, 0, none⟩) (by simp only; rw [H7s.out]; omega)).trans HL.out.ptr.cell
    · intro j hj
      rw [HLl.out] at hj
      have h1 := HL.out.cell j hj
      rw [← HLe.out] at h1
      exact (hW.cell (p := ⟨w.heap.size + 5, 0 + j, none⟩) (by simp only; rw [H7s.out]; omega)).trans h1
    · exact HL.out.rdr.same (hW.block _ (by rw [H7s.out]; omega))
    · rintro e W' ⟨h1, ys, h2, h3, h4⟩
      exact ⟨h1, ys, h2, h3, h4⟩
  case book =>
    intro W l o o' hl _ _ _
    rw [H7s.out] at hl
    exact ⟨by simp [World.putObj], fun k hk => World.putObj_heap_other (by omega)⟩
  case own =>
    exact OwnFrom.and (Own.from (outB_own _ _ _ _) _) (OwnFrom.and atA_own (OwnFrom.and (ownFrom_below (Nat.le_refl _) (by rw [H7s.out]; omega)) (fun _ _ _ _ h hg _ => Nat.le_trans h hg.size)))
  case turn =>
    rintro pre X X' ⟨h1, h2, h3, h4⟩ hg
    exact ⟨h1.grown hg (by omega) (.inr (.inl rfl)), (hg.block _ h2.lt (by intro e; have := Option.some.inj e; omega)).trans h2, h3.grown hg h3.size (fun k e => by have := Option.some.inj e; omega), Nat.le_trans h4 hg.size⟩
  case fin =>
    intro W l o' hl hT
    rw [H7s.out] at hl
    exact hT.same (World.putObj_heap_other (by omega))
  case assign =>
    intro l x W K hK
    gi_wp2
    exact hK
  case body =>
    rintro l pre x W ⟨⟨v, hbv, hown, hv⟩, hAt, hB, hWs⟩ hlen
    have hx64 : x.1 < 64 := by have h1 := x.2; have h2 := H64.out; omega
    have hx64i : (x.1 : Int) < 64 := by omega
    have hfx := HA.out.small x.1 x.2
    have hfw : IntKind.u8.wrap (f x.1 : Int) = (f x.1 : Int) := by rw [IntKind.wrap_u8]; omega
    have hcx : W.cell? ⟨w.heap.size, 1 + x.1, none⟩ = some (.int .i32 (f x.1 : Int)) := (hAt.cell (1 + x.1)).trans (by rw [Nat.add_comm] : A[1 + x.1]? = A[x.1 + 1]?) |>.trans (HA.out.letter x.1 x.2)
    obtain ⟨X, hX⟩ : ∃ X, X = pre.map fun x => UInt8.ofNat (f x.1) := ⟨_, rfl⟩
    rw [← hX] at hown
    have hXl : X.length ≤ 3000 := by rw [hX, List.length_map]; have := HLl.out; omega
    obtain ⟨g, cap', w', hrun, hb1, hout, hko, hkp, hbl⟩ := app_run W ((W.alloc (.cells #[.int .u8 (f x.1 : Int)] 5)).drew) v (w.heap.size + 4) w.heap.size (fun k => k = w.heap.size ∨ k = w.heap.size + 1 ∨ k = w.heap.size + 5 ∨ k = w.heap.size + 6 ∨ k = w.heap.size + 7) X (UInt8.ofNat (f x.1)) (f x.1 : Int) (by rw [u8_nat _ (by omega)]) hXl (by omega) (by omega) (by intro k hk; omega) hbv hown hv (grown_drew _ none) (by simp)
    have hcv := hbv.cell
    have hcv2 := (hbv.alloc (.cells #[.int .u8 (f x.1 : Int)] 5)).cell
    have hcb1 := hb1.cell
    have hfb1 := hb1.frozen
    have HX := Lib.hid hX
    have HOut := Lib.hid hout
    have HKo := Lib.hid hko
    have HKp := Lib.hid hkp
    have HBl := Lib.hid hbl
    have HBv := Lib.hid hbv
    have HOwn := Lib.hid hown
    have HAt := Lib.hid hAt
    have HB := Lib.hid hB
    have HFin := Lib.hid (show KeepsFrom W7.heap.size W (w'.setCell ⟨w.heap.size + 4, 0, none⟩ (.slice (some ⟨g, 0, none⟩) (X.length + 1) cap')) ∧ Kpt (fun k => (k = w.heap.size + 5 ∨ k = w.heap.size + 6 ∨ k = w.heap.size + 7) ∨ k = w.heap.size + 1) W (w'.setCell ⟨w.heap.size + 4, 0, none⟩ (.slice (some ⟨g, 0, none⟩) (X.length + 1) cap')) ∧
      OutB (w'.setCell ⟨w.heap.size + 4, 0, none⟩ (.slice (some ⟨g, 0, none⟩) (X.length + 1) cap')) (w.heap.size + 4) w.heap.size (fun k => k = w.heap.size ∨ k = w.heap.size + 1 ∨ k = w.heap.size + 5 ∨ k = w.heap.size + 6 ∨ k = w.heap.size + 7) ((pre ++ [x]).map fun x => UInt8.ofNat (f x.1)) ∧
      AtA (w'.setCell ⟨w.heap.size + 4, 0, none⟩ (.slice (some ⟨g, 0, none⟩) (X.length + 1) cap')) w.heap.size A ∧ Below w.heap.size w (w'.setCell ⟨w.heap.size + 4, 0, none⟩ (.slice (some ⟨g, 0, none⟩) (X.length + 1) cap')) ∧ w.heap.size + 8 ≤ (w'.setCell ⟨w.heap.size + 4, 0, none⟩ (.slice (some ⟨g, 0, none⟩) (X.length + 1) cap')).heap.size from
      ⟨HKo.out.from _, ⟨HKp.out.1, fun k hk => HKp.out.2 k (by omega)⟩, by rw [List.map_append, List.map_singleton, ← HX.out]; exact HOut.out, (HKp.out.2 _ (.inl rfl)).trans HAt.out, HB.out.trans HBl.out, Nat.le_trans hWs HKp.out.1⟩)
    clear hX hout hko hkp hbl hbv hown hAt hB hb1 hv
    gi_wp2
    refine region_round hmx (by kernel_rfl) (by rintro ⟨_, _, h⟩; exact h) ?_
    refine wpAny_take (i := 1) (v := .int .u8 (x.1 : Int)) rfl (by kernel_rfl) (by kernel_rfl) (by kernel_rfl) (fun _ _ _ h => h) (Or.inl ⟨by rfl, by intro w; go_simp⟩) ?_
    refine wpAny_take (i := 2) (v := .pointer (some ⟨w.heap.size, 1, none⟩)) rfl (by kernel_rfl) (by kernel_rfl) (by kernel_rfl) (fun _ _ _ h => h) (Or.inl ⟨by rfl, by intro w; go_simp⟩) ?_
    refine wpAny_take (i := 3) (v := .pointer (some ⟨w.heap.size, 1 + x.1, none⟩)) rfl (by kernel_rfl) (by kernel_rfl) (by kernel_rfl) (fun _ _ _ h => h) (Or.inl ⟨by rfl, by intro w; go_simp⟩) ?_
    refine wpAny_ready (rs := [0, 4]) (by kernel_rfl) (by simp) ?_
    refine AllReady.cons rfl (fun K hK => ?_) (AllReady.cons rfl (fun K hK => ?_) AllReady.nil)
    · go_simp
      refine hK _ _ ?_
      clear hK K
      refine wpAny_ready (rs := [4]) (by kernel_rfl) (by simp) ?_
      refine AllReady.cons rfl (fun K hK => ?_) AllReady.nil
      go_simp
      refine hK _ _ ?_
      clear hK K
      refine wpAny_ready (rs := [5]) (by kernel_rfl) (by simp) ?_
      refine AllReady.cons rfl (fun K hK => ?_) AllReady.nil
      go_simp
      refine hK _ _ ?_
      clear hK K
      refine wpAny_ready (rs := [6]) (by kernel_rfl) (by simp) ?_
      refine AllReady.cons rfl (fun K hK => ?_) AllReady.nil
      go_simp
      refine hK _ _ ?_
      clear hK K
      refine wpAny_ready (rs := [7]) (by kernel_rfl) (by simp) ?_
      refine AllReady.cons rfl (fun K hK => ?_) AllReady.nil
      refine step_append_run (v := v) (u := .slice (some ⟨W.heap.size, 0, none⟩) 1 1) rfl rfl (by go_simp) (by go_simp) hrun ?_
      refine hK _ _ ?_
      clear hK K
      refine wpAny_ready (rs := [8]) (by kernel_rfl) (by simp) ?_
      refine AllReady.cons rfl (fun K hK => ?_) AllReady.nil
      go_simp
      refine hK _ _ ?_
      clear hK K
      refine wpAny_done (by kernel_rfl) ?_ _
      exact HFin.out
    · go_simp
      refine hK _ _ ?_
      clear hK K
      refine wpAny_take (i := 5) (v := .int .u8 (f x.1 : Int)) rfl (by kernel_rfl) (by kernel_rfl) (by kernel_rfl) (fun _ _ _ h => h) (Or.inl ⟨by rfl, by intro w; go_simp⟩) ?_
      refine wpAny_ready (rs := [0, 6]) (by kernel_rfl) (by simp) ?_
      refine AllReady.cons rfl (fun K hK => ?_) (AllReady.cons rfl (fun K hK => ?_) AllReady.nil)
      · go_simp
        refine hK _ _ ?_
        clear hK K
        refine wpAny_ready (rs := [6]) (by kernel_rfl) (by simp) ?_
        refine AllReady.cons rfl (fun K hK => ?_) AllReady.nil
        go_simp
        refine hK _ _ ?_
        clear hK K
        refine wpAny_ready (rs := [7]) (by kernel_rfl) (by simp) ?_
        refine AllReady.cons rfl (fun K hK => ?_) AllReady.nil
        refine step_append_run (v := v) (u := .slice (some ⟨W.heap.size, 0, none⟩) 1 1) rfl rfl (by go_simp) (by go_simp) hrun ?_
        refine hK _ _ ?_
        clear hK K
        refine wpAny_ready (rs := [8]) (by kernel_rfl) (by simp) ?_
        refine AllReady.cons rfl (fun K hK => ?_) AllReady.nil
        go_simp
        refine hK _ _ ?_
        clear hK K
        refine wpAny_done (by kernel_rfl) ?_ _
        exact HFin.out
      · go_simp
        refine hK _ _ ?_
        clear hK K
        refine wpAny_ready (rs := [0]) (by kernel_rfl) (by simp) ?_
        refine AllReady.cons rfl (fun K hK => ?_) AllReady.nil
        go_simp
        refine hK _ _ ?_
        clear hK K
        refine wpAny_ready (rs := [7]) (by kernel_rfl) (by simp) ?_
        refine AllReady.cons rfl (fun K hK => ?_) AllReady.nil
        refine step_append_run (v := v) (u := .slice (some ⟨W.heap.size, 0, none⟩) 1 1) rfl rfl (by go_simp) (by go_simp) hrun ?_
        refine hK _ _ ?_
        clear hK K
        refine wpAny_ready (rs := [8]) (by kernel_rfl) (by simp) ?_
        refine AllReady.cons rfl (fun K hK => ?_) AllReady.nil
        go_simp
        refine hK _ _ ?_
        clear hK K
        refine wpAny_done (by kernel_rfl) ?_ _
        exact HFin.out
  case done =>
    rintro D xs W hD hxs ⟨hO, hAt, hB, hWs⟩ hT hK
    rw [H7s.out] at hD
    obtain ⟨S, hS⟩ : ∃ S, S = foldR 8 wd L := ⟨_, rfl⟩
    rw [← hS] at hxs hT
    have hinv : RI wd S := by rw [hS]; exact foldR_inv (by omega) L
    have hin1 := hinv.held
    have hin2 := hinv.few
    have HIn1 := Lib.hid hin1
    have HSe := Lib.hid hS
    have HLe2 := HLe.out
    rw [HLe2] at HSe
    have HO := Lib.hid hO
    have HAt := Lib.hid hAt
    have HB := Lib.hid hB
    have HT := Lib.hid hT
    have HXs := Lib.hid hxs
    have HKd := Lib.hid hK
    have hct := hT.count
    clear hS hinv hin1 HLe2 hO hAt hB hT hxs hK
    obtain ⟨Z, hZ⟩ : ∃ Z, Z = xs.map (fun x => UInt8.ofNat (f x.1)) := ⟨_, rfl⟩
    have hZ2 : Z = S.1.map (fun n => UInt8.ofNat (f n)) := by rw [hZ, ← HXs.out, List.map_map]; rfl
    have hZl : Z.length ≤ 3000 := by
      have h1 := foldR_len (f := 8) hwp (by omega) (by decide) L
      have h2 := HLl.out
      rw [hZ2, List.length_map, HSe.out, ← HLe.out]
      omega
    have HZ2 := Lib.hid hZ2
    rw [← hZ] at HO
    clear hZ hZ2 HXs
    obtain ⟨v, hbv, hown, hv⟩ := HO.out
    clear HO
    by_cases hc0 : 0 < S.2.2
    · obtain ⟨x, hx⟩ : ∃ x, x = S.2.1 * 2 ^ (wd - S.2.2) := ⟨_, rfl⟩
      have hxl : x < 2 ^ wd := by
        rw [hx]
        have e : 2 ^ wd = 2 ^ S.2.2 * 2 ^ (wd - S.2.2) := by rw [← Nat.pow_add]; congr 1; omega
        rw [e]
        exact Nat.mul_lt_mul_of_pos_right HIn1.out (Nat.two_pow_pos _)
      have hx64 : x < 64 := by have h2 := H64.out; omega
      have hx64i : (x : Int) < 64 := by omega
      have hfx := HA.out.small x hxl
      have hfw : IntKind.u8.wrap (f x : Int) = (f x : Int) := by rw [IntKind.wrap_u8]; omega
      have FC := fill_calls (w.heap.size + 1) 8 wd S.2.1 S.2.2 wd W.drew HT.out (by omega) (by omega) HIn1.out
      rw [← hx] at FC
      have HFC := Lib.hid FC
      have HN := Lib.hid (fun w1 (hg : W.drew.grownBy w1 (some (w.heap.size + 1))) => fill_app W w1 A f v x w.heap.size Z hfx hZl hWs hbv hown hv HAt.out ((HAt.out.cell (1 + x)).trans (by rw [Nat.add_comm]; exact HA.out.letter x hxl)) hg D hD HKd.out)
      have hcv := hbv.cell
      have hcw : W.cell? ⟨w.heap.size, 0, none⟩ = some (.int .u64 (wd : Int)) := (HAt.out.cell 0).trans HA.out.width
      have HX := Lib.hid hx
      clear hx FC hbv hown hv
      go_wp2
      refine wp_region_noPanic ?_
      refine wp_region_any hmx ?_
      change wpAny _ _ _ _ _ _ _ (World.drew _)
      refine wpAny_take (i := 1) (v := .pointer (some ⟨w.heap.size + 1, 0, none⟩)) rfl (by kernel_rfl) (by kernel_rfl) (by kernel_rfl) (fun _ _ _ h => h) (Or.inl ⟨by rfl, by intro w; go_simp⟩) ?_
      refine wpAny_take (i := 2) (v := .pointer (some ⟨w.heap.size, 0, none⟩)) rfl (by kernel_rfl) (by kernel_rfl) (by kernel_rfl) (fun _ _ _ h => h) (Or.inl ⟨by rfl, by intro w; go_simp⟩) ?_
      refine wpAny_take (i := 5) (v := .pointer (some ⟨w.heap.size, 1, none⟩)) rfl (by kernel_rfl) (by kernel_rfl) (by kernel_rfl) (fun _ _ _ h => h) (Or.inl ⟨by rfl, by intro w; go_simp⟩) ?_
      refine wpAny_ready (rs := [0, 3]) (by kernel_rfl) (by simp) ?_
      refine AllReady.cons rfl (fun K hK => ?_) (AllReady.cons rfl (fun K hK => ?_) AllReady.nil)
      · go_simp
        refine hK _ _ ?_
        clear hK K
        refine wpAny_ready (rs := [3]) (by kernel_rfl) (by simp) ?_
        refine AllReady.cons rfl (fun K hK => ?_) AllReady.nil
        go_simp
        refine hK _ _ ?_
        clear hK K
        refine wpAny_ready (rs := [4]) (by kernel_rfl) (by simp) ?_
        refine AllReady.cons rfl (fun K hK => ?_) AllReady.nil
        go_simp
        refine HFC.out.mono ?_
        rintro e w1 ⟨rfl, hr1, hg1⟩
        obtain ⟨hc1, hc2, hc3, g, cap', w', hrun, hb1, hf1, HOut, HKd2, HBl⟩ := HN.out w1 hg1
        clear hr1 hg1
        refine hK _ _ ?_
        clear hK K
        refine wpAny_take (i := 6) (v := .pointer (some ⟨w.heap.size, 1 + x, none⟩)) rfl (by kernel_rfl) (by kernel_rfl) (by kernel_rfl) (fun _ _ _ h => h) (Or.inl ⟨by rfl, by intro w; go_simp⟩) ?_
        refine wpAny_ready (rs := [7]) (by kernel_rfl) (by simp) ?_
        refine AllReady.cons rfl (fun K hK => ?_) AllReady.nil
        go_simp
        refine hK _ _ ?_
        clear hK K
        refine wpAny_take (i := 8) (v := .int .u8 (f x : Int)) rfl (by kernel_rfl) (by kernel_rfl) (by kernel_rfl) (fun _ _ _ h => h) (Or.inl ⟨by rfl, by intro w; go_simp⟩) ?_
        refine wpAny_ready (rs := [9]) (by kernel_rfl) (by simp) ?_
        refine AllReady.cons rfl (fun K hK => ?_) AllReady.nil
        go_simp
        refine hK _ _ ?_
        clear hK K
        refine wpAny_ready (rs := [10]) (by kernel_rfl) (by simp) ?_
        refine AllReady.cons rfl (fun K hK => ?_) AllReady.nil
        refine step_append_run (v := v) (u := .slice (some ⟨w1.heap.size, 0, none⟩) 1 1) rfl rfl (by go_simp) (by go_simp) hrun ?_
        refine hK _ _ ?_
        clear hK K
        refine wpAny_ready (rs := [11]) (by kernel_rfl) (by simp) ?_
        refine AllReady.cons rfl (fun K hK => ?_) AllReady.nil
        go_simp
        refine hK _ _ ?_
        clear hK K
        refine wpAny_done (by kernel_rfl) ?_ _
        refine NoPanic.normal ?_
        obtain ⟨W8, hW8⟩ : ∃ W8, W8 = w'.setCell ⟨w.heap.size + 4, 0, none⟩ (.slice (some ⟨g, 0, none⟩) (Z.length + 1) cap') := ⟨_, rfl⟩
        rw [← hW8] at HOut HKd2 HBl ⊢
        obtain ⟨v8, hb8, ho8, _⟩ := HOut.out
        have hc8 := hb8.cell
        have hcon := conv_own ho8
        clear hW8 hrun hb1 hf1 hc1 hc2 hc3 hcv hcw hct hb8 ho8
        go_wp2
        refine ⟨by simp, .inl ⟨_, _, rfl, run_takeDeferred HKd2.out, ?_⟩⟩
        refine ⟨_, results_tmp2 rfl _ _ _, ?_⟩
        refine ⟨?_, (HB.out.trans HBl.out).trans (belowK_b (w := w) (Nat.le_refl _) _ D _ _ (by omega) HKd2.out rfl rfl)⟩
        rw [← HSe.out, fillL, if_pos hc0, ← HX.out, List.map_append, List.map_singleton, ← HZ2.out]
        rfl
      · go_simp
        refine hK _ _ ?_
        clear hK K
        refine wpAny_ready (rs := [0, 4]) (by kernel_rfl) (by simp) ?_
        refine AllReady.cons rfl (fun K hK => ?_) (AllReady.cons rfl (fun K hK => ?_) AllReady.nil)
        · go_simp
          refine hK _ _ ?_
          clear hK K
          refine wpAny_ready (rs := [4]) (by kernel_rfl) (by simp) ?_
          refine AllReady.cons rfl (fun K hK => ?_) AllReady.nil
          go_simp
          refine HFC.out.mono ?_
          rintro e w1 ⟨rfl, hr1, hg1⟩
          obtain ⟨hc1, hc2, hc3, g, cap', w', hrun, hb1, hf1, HOut, HKd2, HBl⟩ := HN.out w1 hg1
          clear hr1 hg1
          refine hK _ _ ?_
          clear hK K
          refine wpAny_take (i := 6) (v := .pointer (some ⟨w.heap.size, 1 + x, none⟩)) rfl (by kernel_rfl) (by kernel_rfl) (by kernel_rfl) (fun _ _ _ h => h) (Or.inl ⟨by rfl, by intro w; go_simp⟩) ?_
          refine wpAny_ready (rs := [7]) (by kernel_rfl) (by simp) ?_
          refine AllReady.cons rfl (fun K hK => ?_) AllReady.nil
          go_simp
          refine hK _ _ ?_
          clear hK K
          refine wpAny_take (i := 8) (v := .int .u8 (f x : Int)) rfl (by kernel_rfl) (by kernel_rfl) (by kernel_rfl) (fun _ _ _ h => h) (Or.inl ⟨by rfl, by intro w; go_simp⟩) ?_
          refine wpAny_ready (rs := [9]) (by kernel_rfl) (by simp) ?_
          refine AllReady.cons rfl (fun K hK => ?_) AllReady.nil
          go_simp
          refine hK _ _ ?_
          clear hK K
          refine wpAny_ready (rs := [10]) (by kernel_rfl) (by simp) ?_
          refine AllReady.cons rfl (fun K hK => ?_) AllReady.nil
          refine step_append_run (v := v) (u := .slice (some ⟨w1.heap.size, 0, none⟩) 1 1) rfl rfl (by go_simp) (by go_simp) hrun ?_
          refine hK _ _ ?_
          clear hK K
          refine wpAny_ready (rs := [11]) (by kernel_rfl) (by simp) ?_
          refine AllReady.cons rfl (fun K hK => ?_) AllReady.nil
          go_simp
          refine hK _ _ ?_
          clear hK K
          refine wpAny_done (by kernel_rfl) ?_ _
          refine NoPanic.normal ?_
          obtain ⟨W8, hW8⟩ : ∃ W8, W8 = w'.setCell ⟨w.heap.size + 4, 0, none⟩ (.slice (some ⟨g, 0, none⟩) (Z.length + 1) cap') := ⟨_, rfl⟩
          rw [← hW8] at HOut HKd2 HBl ⊢
          obtain ⟨v8, hb8, ho8, _⟩ := HOut.out
          have hc8 := hb8.cell
          have hcon := conv_own ho8
          clear hW8 hrun hb1 hf1 hc1 hc2 hc3 hcv hcw hct hb8 ho8
          go_wp2
          refine ⟨by simp, .inl ⟨_, _, rfl, run_takeDeferred HKd2.out, ?_⟩⟩
          refine ⟨_, results_tmp2 rfl _ _ _, ?_⟩
          refine ⟨?_, (HB.out.trans HBl.out).trans (belowK_b (w := w) (Nat.le_refl _) _ D _ _ (by omega) HKd2.out rfl rfl)⟩
          rw [← HSe.out, fillL, if_pos hc0, ← HX.out, List.map_append, List.map_singleton, ← HZ2.out]
          rfl
        · go_simp
          refine HFC.out.mono ?_
          rintro e w1 ⟨rfl, hr1, hg1⟩
          obtain ⟨hc1, hc2, hc3, g, cap', w', hrun, hb1, hf1, HOut, HKd2, HBl⟩ := HN.out w1 hg1
          clear hr1 hg1
          refine hK _ _ ?_
          clear hK K
          refine wpAny_take (i := 6) (v := .pointer (some ⟨w.heap.size, 1 + x, none⟩)) rfl (by kernel_rfl) (by kernel_rfl) (by kernel_rfl) (fun _ _ _ h => h) (Or.inl ⟨by rfl, by intro w; go_simp⟩) ?_
          refine wpAny_ready (rs := [0, 7]) (by kernel_rfl) (by simp) ?_
          refine AllReady.cons rfl (fun K hK => ?_) (AllReady.cons rfl (fun K hK => ?_) AllReady.nil)
          · go_simp
            refine hK _ _ ?_
            clear hK K
            refine wpAny_ready (rs := [7]) (by kernel_rfl) (by simp) ?_
            refine AllReady.cons rfl (fun K hK => ?_) AllReady.nil
            go_simp
            refine hK _ _ ?_
            clear hK K
            refine wpAny_take (i := 8) (v := .int .u8 (f x : Int)) rfl (by kernel_rfl) (by kernel_rfl) (by kernel_rfl) (fun _ _ _ h => h) (Or.inl ⟨by rfl, by intro w; go_simp⟩) ?_
            refine wpAny_ready (rs := [9]) (by kernel_rfl) (by simp) ?_
            refine AllReady.cons rfl (fun K hK => ?_) AllReady.nil
            go_simp
            refine hK _ _ ?_
            clear hK K
            refine wpAny_ready (rs := [10]) (by kernel_rfl) (by simp) ?_
            refine AllReady.cons rfl (fun K hK => ?_) AllReady.nil
            refine step_append_run (v := v) (u := .slice (some ⟨w1.heap.size, 0, none⟩) 1 1) rfl rfl (by go_simp) (by go_simp) hrun ?_
            refine hK _ _ ?_
            clear hK K
            refine wpAny_ready (rs := [11]) (by kernel_rfl) (by simp) ?_
            refine AllReady.cons rfl (fun K hK => ?_) AllReady.nil
            go_simp
            refine hK _ _ ?_
            clear hK K
            refine wpAny_done (by kernel_rfl) ?_ _
            refine NoPanic.normal ?_
            obtain ⟨W8, hW8⟩ : ∃ W8, W8 = w'.setCell ⟨w.heap.size + 4, 0, none⟩ (.slice (some ⟨g, 0, none⟩) (Z.length + 1) cap') := ⟨_, rfl⟩
            rw [← hW8] at HOut HKd2 HBl ⊢
            obtain ⟨v8, hb8, ho8, _⟩ := HOut.out
            have hc8 := hb8.cell
            have hcon := conv_own ho8
            clear hW8 hrun hb1 hf1 hc1 hc2 hc3 hcv hcw hct hb8 ho8
            go_wp2
            refine ⟨by simp, .inl ⟨_, _, rfl, run_takeDeferred HKd2.out, ?_⟩⟩
            refine ⟨_, results_tmp2 rfl _ _ _, ?_⟩
            refine ⟨?_, (HB.out.trans HBl.out).trans (belowK_b (w := w) (Nat.le_refl _) _ D _ _ (by omega) HKd2.out rfl rfl)⟩
            rw [← HSe.out, fillL, if_pos hc0, ← HX.out, List.map_append, List.map_singleton, ← HZ2.out]
            rfl
          · go_simp
            refine hK _ _ ?_
            clear hK K
            refine wpAny_take (i := 8) (v := .int .u8 (f x : Int)) rfl (by kernel_rfl) (by kernel_rfl) (by kernel_rfl) (fun _ _ _ h => h) (Or.inl ⟨by rfl, by intro w; go_simp⟩) ?_
            refine wpAny_ready (rs := [0, 9]) (by kernel_rfl) (by simp) ?_
            refine AllReady.cons rfl (fun K hK => ?_) (AllReady.cons rfl (fun K hK => ?_) AllReady.nil)
            · go_simp
              refine hK _ _ ?_
              clear hK K
              refine wpAny_ready (rs := [9]) (by kernel_rfl) (by simp) ?_
              refine AllReady.cons rfl (fun K hK => ?_) AllReady.nil
              go_simp
              refine hK _ _ ?_
              clear hK K
              refine wpAny_ready (rs := [10]) (by kernel_rfl) (by simp) ?_
              refine AllReady.cons rfl (fun K hK => ?_) AllReady.nil
              refine step_append_run (v := v) (u := .slice (some ⟨w1.heap.size, 0, none⟩) 1 1) rfl rfl (by go_simp) (by go_simp) hrun ?_
              refine hK _ _ ?_
              clear hK K
              refine wpAny_ready (rs := [11]) (by kernel_rfl) (by simp) ?_
              refine AllReady.cons rfl (fun K hK => ?_) AllReady.nil
              go_simp
              refine hK _ _ ?_
              clear hK K
              refine wpAny_done (by kernel_rfl) ?_ _
              refine NoPanic.normal ?_
              obtain ⟨W8, hW8⟩ : ∃ W8, W8 = w'.setCell ⟨w.heap.size + 4, 0, none⟩ (.slice (some ⟨g, 0, none⟩) (Z.length + 1) cap') := ⟨_, rfl⟩
              rw [← hW8] at HOut HKd2 HBl ⊢
              obtain ⟨v8, hb8, ho8, _⟩ := HOut.out
              have hc8 := hb8.cell
              have hcon := conv_own ho8
              clear hW8 hrun hb1 hf1 hc1 hc2 hc3 hcv hcw hct hb8 ho8
              go_wp2
              refine ⟨by simp, .inl ⟨_, _, rfl, run_takeDeferred HKd2.out, ?_⟩⟩
              refine ⟨_, results_tmp2 rfl _ _ _, ?_⟩
              refine ⟨?_, (HB.out.trans HBl.out).trans (belowK_b (w := w) (Nat.le_refl _) _ D _ _ (by omega) HKd2.out rfl rfl)⟩
              rw [← HSe.out, fillL, if_pos hc0, ← HX.out, List.map_append, List.map_singleton, ← HZ2.out]
              rfl
            · go_simp
              refine hK _ _ ?_
              clear hK K
              refine wpAny_ready (rs := [0]) (by kernel_rfl) (by simp) ?_
              refine AllReady.cons rfl (fun K hK => ?_) AllReady.nil
              go_simp
              refine hK _ _ ?_
              clear hK K
              refine wpAny_ready (rs := [10]) (by kernel_rfl) (by simp) ?_
              refine AllReady.cons rfl (fun K hK => ?_) AllReady.nil
              refine step_append_run (v := v) (u := .slice (some ⟨w1.heap.size, 0, none⟩) 1 1) rfl rfl (by go_simp) (by go_simp) hrun ?_
              refine hK _ _ ?_
              clear hK K
              refine wpAny_ready (rs := [11]) (by kernel_rfl) (by simp) ?_
              refine AllReady.cons rfl (fun K hK => ?_) AllReady.nil
              go_simp
              refine hK _ _ ?_
              clear hK K
              refine wpAny_done (by kernel_rfl) ?_ _
              refine NoPanic.normal ?_
              obtain ⟨W8, hW8⟩ : ∃ W8, W8 = w'.setCell ⟨w.heap.size + 4, 0, none⟩ (.slice (some ⟨g, 0, none⟩) (Z.length + 1) cap') := ⟨_, rfl⟩
              rw [← hW8] at HOut HKd2 HBl ⊢
              obtain ⟨v8, hb8, ho8, _⟩ := HOut.out
              have hc8 := hb8.cell
              have hcon := conv_own ho8
              clear hW8 hrun hb1 hf1 hc1 hc2 hc3 hcv hcw hct hb8 ho8
              go_wp2
              refine ⟨by simp, .inl ⟨_, _, rfl, run_takeDeferred HKd2.out, ?_⟩⟩
              refine ⟨_, results_tmp2 rfl _ _ _, ?_⟩
              refine ⟨?_, (HB.out.trans HBl.out).trans (belowK_b (w := w) (Nat.le_refl _) _ D _ _ (by omega) HKd2.out rfl rfl)⟩
              rw [← HSe.out, fillL, if_pos hc0, ← HX.out, List.map_append, List.map_singleton, ← HZ2.out]
              rfl
    · have hcv := hbv.cell
      have hcon := conv_own hown
      clear hbv hown hv
      go_wp2
      refine ⟨by simp, .inl ⟨_, _, rfl, run_takeDeferred HKd.out, ?_⟩⟩
      refine ⟨_, results_tmp2 rfl _ _ _, ?_⟩
      refine ⟨?_, HB.out.trans (belowK_b (w := w) (Nat.le_refl _) _ D _ _ (by omega) HKd.out rfl rfl)⟩
      rw [← HSe.out, fillL, if_neg hc0, List.append_nil, ← HZ2.out]
      rfl
end Go.Proofs.Ytfmhpeeecejpbaa
