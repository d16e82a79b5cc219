/- The walk of read. -/
import Derived.Test.YtgcalhnfoakggaaGreatDoorDig
import Derived.Test.YtgcalhnfoakggaaGreatDoorRnd
import Derived.Test.YtgcalhnfoakggaaGreatDoorRMath
import Derived.WalkMore
import Derived.Lib.Strings
namespace Go.Proofs.YtgcalhnfoakggaaGreatDoor
open Go.RowKit Go.Shelf

attribute [local go_sem] Oper.semAt_some

/-- What read hands back. -/
def ReadPost (l : List UInt8) (w : World) (e : Ending) (w' : World) : Prop :=
  (isNat l = false ∧ e = .returned (.tuple #[.slice none 0 0, .bool false]) ∧ Below w.heap.size w w') ∨
  (isNat l = true ∧ ∃ R v, e = .returned (.tuple #[v, .bool true]) ∧ Lm w' v R ∧ Bd R ∧ Nm R ∧ val R = dv l ∧ R.length ≤ 45 ∧ Below w.heap.size w w')

theorem scope_in {n : Nat} {c : Code} {Q : Exit → Act → World → Prop} {a : Act} {w : World} (h : c.wpIn Fence.wide n Tryz.prog (Exit.noGoto Q) a w) : (Code.scope c).wpIn Fence.wide n Tryz.prog Q a w :=
  wpIn_wide.2 (wp_scope_straight (wpIn_wide.1 h))
theorem label_in {n : Nat} {l : Nat} {Q : Exit → Act → World → Prop} {a : Act} {w : World} (h : Q .normal a w) : (Code.label l).wpIn Fence.wide n Tryz.prog Q a w :=
  wpIn_wide.2 (wp_label h)

/-- A new row of noughts. -/
def rowObj (n : Nat) : Obj := .cells (mapv (List.replicate n 0)).toArray 68
theorem run_make_limbs (W : World) (C : Int) (n : Nat) (hC : C = (n : Int)) (hn : n ≤ 100000) : (Instr.makeSlice 96 (.int .i64 C) (.int .i64 C)).run Tryz.prog W = .ok (.slice (some ⟨W.heap.size, 0, none⟩) n n) (W.alloc (rowObj n)) := by
  obtain ⟨i0, hi, hz0, hz1, hz2⟩ := info_parts info31
  subst hC
  have h := run_make (P := Tryz.prog) W 96 68 i0 (.int .u32 0) Tryz.underlying96 hi hz0 .i64 .i64 (n : Int) (n : Int) (by omega) (Int.le_refl _) (by rw [hz2]; omega) (by omega)
  rw [h, hz1, Int.toNat_natCast, Nat.mul_one, rowObj, ← made_eq]
  rfl

theorem Lm.putObj {W : World} {v : Value} {L : List Nat} (h : Lm W v L) {D : Nat} {o' : Obj} (hK : W.heap[D]? = some (.deferred (some []))) : Lm (W.putObj D o') v L := by
  rcases h with h | ⟨b, off, cap, rfl, hc, hlt, hcs⟩
  · exact .inl h
  · exact .inr ⟨b, off, cap, rfl, hc, by simpa [World.putObj] using hlt, fun j hj => cell_kept (hcs j hj) (grownBy_putObj' _ D _) (fun r e => by cases e; exact ⟨_, hK, rfl⟩)⟩

theorem boxed_off {W : World} {B : Nat} {t : TypeId} {v : Value} {p : Addr} (h : Boxed W B t v) (hne : B ≠ p.block) (u : Value) : Boxed (W.setCell p u).drew B t v := (Below.heap_setCell W p u B hne).trans h

theorem row_own (g : Nat) {β : Type} (f : β → List Nat) : Own (fun s W => Row W g (f s)) := fun _ A _ row hs hg hr =>
  hs.kept (hg.block g hs.lt (fun e => by obtain ⟨o, ho, hc⟩ := hr g e.symm; rw [show A.heap[g]? = _ from hs] at ho; cases ho; cases hc))

theorem read_no {l : List UInt8} {w w' : World} (h : isNat l = false) (hb : Below w.heap.size w w') : ReadPost l w (.returned (.tuple #[.slice none 0 0, .bool false])) w' := .inl ⟨h, rfl, hb⟩

set_option maxRecDepth 100000 in
set_option maxHeartbeats 4000000 in
theorem read_main (s : ByteArray) (w : World) (hg : Goes s) : Calls Tryz.prog 72 #[.string s] w (ReadPost s.data.toList w) := by
  obtain ⟨hs1, hs2, hz⟩ := hg
  obtain ⟨n, hn⟩ : ∃ n, n = (s.size + 8) / 9 := ⟨_, rfl⟩
  have hmk := fun W => run_make_limbs W (((s.size : Int) + 9 - 1) / 9) n (by rw [hn]; omega) (by omega)
  have hmx : Tryz.prog.follows .mixedOrders = true := by kernel_rfl
  have hE : s.toList.isEmpty = false := by rw [Lib.toList_data]; cases h : s.data.toList with | nil => (have := Lib.size_eq s; rw [h] at this; simp only [List.length_nil] at this; omega) | cons => rfl
  have hE2 : ¬ s.toList = [] := by intro h; rw [h] at hE; cases hE
  have h400 : decide ((400 : Int) < (s.size : Int)) = false := by simp; omega
  have hn9 : ∀ b, b < s.size → b / 9 < n := fun b hb => by omega
  have HN9 := Lib.hid hn9
  have HN := Lib.hid hn
  clear hn9 hn
  have hor : ((((s[0]'hs1).toNat : Int) == 48) = false ∧ ¬ (((s[0]'hs1).toNat : Int) = 48)) ∨ ((((s[0]'hs1).toNat : Int) == 48) = true ∧ (s.toList == [48]) = true) := by
    by_cases h : (byteAt s 0).toNat = 48
    · right
      rw [← byteAt_eq s 0 hs1, Lib.toList_data, hz h, h]
      exact ⟨rfl, rfl⟩
    · left
      rw [← byteAt_eq s 0 hs1]
      exact ⟨beq_eq_false_iff_ne.2 (by omega), by omega⟩
  have HZ := Lib.hid hz
  clear hz
  rcases hor with ⟨ho1, ho2⟩ | ⟨ho1, ho2⟩
  all_goals
    refine (callsIn_wide (n := 5)).1 ?_
    refine callsIn_of_wp_marks Tryz.func72 rfl trivial ?_ rfl
    simp only [Tryz.ntmps72, List.size_toArray, List.length_cons, List.length_nil, Nat.reduceAdd, Nat.reduceSub, Array.replicate_succ, Array.replicate_zero, List.push_toArray, List.append_toArray, List.nil_append, List.cons_append]
    gi_wp2
    refine scope_in ?_
    gi_wp2
    refine label_in ?_
    gi_wp2_with (refine ⟨trivial, ?_⟩; gi_at_call 92; refine (dig_in _ _ _).mono ?_; rintro e w' ⟨rfl, rfl⟩)
    obtain ⟨W0, hW0⟩ : ∃ W0, W0 = (((w.alloc (rowObj n)).alloc (.cells #[.slice (some ⟨w.heap.size, 0, none⟩) n n] 96)).alloc (.cells #[.bool true] 4)).alloc (.cells #[.string s] 9) := ⟨_, rfl⟩
    have hRow : Row W0 w.heap.size (List.replicate n 0) := by
      rw [hW0]
      exact (Below.heap_alloc _ _ _ (by simp; omega)).trans ((Below.heap_alloc _ _ _ (by simp; omega)).trans ((Below.heap_alloc _ _ _ (by simp)).trans (World.alloc_heap_new w _)))
    have bX : Boxed W0 (w.heap.size + 1) 96 (.slice (some ⟨w.heap.size, 0, none⟩) n n) := by
      have := Boxed.new (w.alloc (rowObj n)) 96 (.slice (some ⟨w.heap.size, 0, none⟩) n n)
      rw [World.size_alloc] at this
      rw [hW0]; exact (this.alloc _).alloc _
    have bR : Boxed W0 (w.heap.size + 1 + 1) 4 (.bool true) := by
      have := Boxed.new ((w.alloc (rowObj n)).alloc (.cells #[.slice (some ⟨w.heap.size, 0, none⟩) n n] 96)) 4 (.bool true)
      rw [World.size_alloc, World.size_alloc] at this
      rw [hW0]; exact this.alloc _
    have bS : Boxed W0 (w.heap.size + 1 + 1 + 1) 9 (.string s) := by
      have := Boxed.new (((w.alloc (rowObj n)).alloc (.cells #[.slice (some ⟨w.heap.size, 0, none⟩) n n] 96)).alloc (.cells #[.bool true] 4)) 9 (.string s)
      rw [World.size_alloc, World.size_alloc, World.size_alloc] at this
      rw [hW0]; exact this
    have hB0 : Below w.heap.size w W0 := by rw [hW0]; exact ((((Below.refl _ w).alloc (Nat.le_refl _) _).alloc (by simp) _).alloc (by simp; omega) _).alloc (by simp; omega) _
    have hs0 : W0.heap.size = w.heap.size + 4 := by rw [hW0]; simp
    rw [← hW0]
    have HS0 := Lib.hid hs0
    clear hW0 hs0 hmk ho1 ho2
    refine wpIn_rangeFunc_ownG rfl (by omega) (gf := 106) (lb := #[.pointer (some ⟨w.heap.size + 1 + 1 + 1, 0, none⟩)]) rfl trivial (enters_of Tryz.func106 (by kernel_rfl) rfl)
      (dig_stops (5 - 1) (by omega) (w.heap.size + 1 + 1 + 1) (fun k => k = w.heap.size + 1 + 1 + 1) s (by omega) _ (by rw [HS0.out]; omega) rfl bS.cell) Kpt.trans (Kpt.book (by rintro k rfl; rw [HS0.out]; omega)) (Below.refl _ _) (fun _ => rfl)
      (fun pre W => (((∀ p ∈ pre, p.1.2 ≤ 9) ∧ Row W w.heap.size (foldD n (pre.map (·.1)))) ∧ (Boxed W (w.heap.size + 1) 96 (.slice (some ⟨w.heap.size, 0, none⟩) n n) ∧ Boxed W (w.heap.size + 1 + 1) 4 (.bool true) ∧ Boxed W (w.heap.size + 1 + 1 + 1) 9 (.string s))) ∧ Below w.heap.size w W)
      (fun c pre W => ((c = .exit 0 ∧ ∃ ini last, pre = ini ++ [last] ∧ 9 < last.1.2) ∧ Boxed W (w.heap.size + 1 + 1) 4 (.bool false)) ∧ Below w.heap.size w W)
      (OwnFrom.and (OwnFrom.and (OwnFrom.and (ownFrom_pure _ _) (Own.from (row_own _ _) _)) (OwnFrom.and (Own.from (boxed_own _ _ _) _) (OwnFrom.and (Own.from (boxed_own _ _ _) _) (Own.from (boxed_own _ _ _) _)))) (ownFrom_below (Nat.le_refl _) (by rw [HS0.out]; omega)))
      (fun c => OwnFrom.and (OwnFrom.and (ownFrom_pure _ _) (Own.from (boxed_own _ _ _) _)) (ownFrom_below (Nat.le_refl _) (by rw [HS0.out]; omega)))
      ⟨⟨⟨by simp, hRow⟩, bX, bR, bS⟩, hB0⟩
      ?_ ?_ ?_ ?_ ?_
    rotate_left 1
    ·
      intro l x W K hK
      gi_wp2
      exact hK
    · rintro l pre x W ⟨⟨⟨hp, hrow⟩, hbX, hbR, hbS⟩, hB⟩ _
      have HP := Lib.hid hp
      have HRw := Lib.hid hrow
      have hcR := hbR.cell
      have hfR := hbR.frozen
      have hx2 := x.2.2
      by_cases hd : 9 < x.1.2
      · clear hp hrow
        gi_wp2
        exact ⟨(KeepsOthers.setCell _ _ _).from _, ⟨⟨rfl, pre, x, rfl, hd⟩, hbR.set _⟩, hB.setCell (p := ⟨w.heap.size + 1 + 1, 0, none⟩) (by simp; omega) _⟩
      · have hcX := hbX.cell
        have hi : x.1.1 / 9 < n := HN9.out _ x.2.1
        have hcell := hrow.cell (j := x.1.1 / 9) (by rw [foldD_length]; exact hi)
        have hfz := hrow.frozen (x.1.1 / 9)
        clear hp hrow
        gi_wp2
        have e9 : (x.1.1 : Int) / 9 = ((x.1.1 / 9 : Nat) : Int) := by omega
        rw [e9]
        clear e9
        obtain ⟨i, hie⟩ : ∃ i, i = x.1.1 / 9 := ⟨_, rfl⟩
        rw [← hie] at hi hcell hfz ⊢
        obtain ⟨X, hX⟩ : ∃ X, X = foldD n (pre.map (·.1)) := ⟨_, rfl⟩
        rw [← hX] at hcell
        have HI := Lib.hid hie
        have HX := Lib.hid hX
        have HB := Lib.hid hB
        have HbX := Lib.hid hbX
        have HbR := Lib.hid hbR
        have HbS := Lib.hid hbS
        clear hie hX hB hbX hbR hbS hcR hfR hRow bX bR bS hB0 hE hE2 h400 hs2
        refine region_tail_round 9 (by kernel_rfl) (by kernel_rfl) (by kernel_rfl) ?_ ?_
        · rintro ⟨_, _, h⟩; exact h
        simp only [List.take_succ_cons, List.take_zero, List.drop_succ_cons, List.drop_zero]
        repeat still_step
        try refine wpStill_nil ?_
        go_wp2
        have hRn := HRw.out.setI (x := ((lat X i : Int) * 10 % 4294967296 + (x.1.2 : Int)) % 4294967296) i ((lat X i * 10 % 4294967296 + x.1.2) % 4294967296) (by omega)
        refine ⟨((KeepsOthers.setCell _ _ _).trans (KeepsOthers.drew _)).from _, ⟨by simp [World.setCell, World.drew], ?_⟩, ⟨⟨?_, ?_⟩, boxed_off HbX.out (by simp only; omega) _, boxed_off HbR.out (by simp only; omega) _, boxed_off HbS.out (by simp only; omega) _⟩, (HB.out.setCell (p := ⟨w.heap.size, i, none⟩) (Nat.le_refl _) _).drew⟩
        · rintro k rfl
          exact Below.heap_setCell _ _ _ _ (by simp only; omega)
        · intro p hp
          rcases List.mem_append.1 hp with h | h
          · exact HP.out p h
          · simp at h; subst h; omega
        · rw [List.map_append, List.map_singleton, foldD_snoc, stepD, ← HX.out, ← HI.out]
          rw [← HX.out] at hRn
          exact hRn
    · rintro D ys W hD hys ⟨⟨⟨hp, hrow⟩, hbX, hbR, hbS⟩, hB⟩ hK
      rw [hys] at hrow
      have hdig : ∀ t, t < s.size → isD (byteAt s t) = true := fun t ht => by
        have hm : (s.size - 1 - t, dgt (byteAt s t)) ∈ ys.map (·.1) := by
          rw [hys]; simp only [digP, List.mem_map, List.mem_range]; exact ⟨t, ht, rfl⟩
        obtain ⟨p, hp1, he⟩ := List.mem_map.1 hm
        have := hp p hp1
        rw [he] at this
        exact dgt_le.1 this
      have HNat := Lib.hid ((isNat_iff s).2 ⟨⟨hs1, hs2, HZ.out⟩, hdig⟩)
      have HV := Lib.hid (rd_fin s n HN.out hdig)
      have HRw := Lib.hid hrow
      have hcR := hbR.cell
      have hcX := hbX.cell
      clear hp hrow hys hdig
      gi_wp2_with (fail)
      refine ⟨trivial, ?_⟩
      refine (callsIn_wide.2 (trim_calls _ (foldD n (digP s s.size)) W (by rw [foldD_length]; have := HN.out; omega) (by have := HRw.out.lm (cap := n) (by rw [foldD_length]; exact Nat.le_refl _); rw [foldD_length] at this; exact this))).mono ?_
      rintro e W2 ⟨v, rfl, hl2, hb2⟩
      gi_wp2
      have hK2 : W2.heap[D]? = some (.deferred (some [])) := (hb2.block D (Array.getElem?_eq_some_iff.1 hK).1).trans hK
      refine ⟨by simp, .inl ⟨_, _, rfl, run_takeDeferred hK2, ?_⟩⟩
      refine ⟨_, results_tmp2 rfl _ _ _, .inr ⟨HNat.out, _, v, rfl, hl2.putObj hK2, bd_trim HV.out.2, nm_trim _, by rw [val_trim, HV.out.1], ?_, (hB.trans (hb2.mono hB.size)).trans (belowK_b (w := w) (Nat.le_refl _) _ D _ _ (by rw [HS0.out] at hD; omega) hK2 rfl rfl)⟩⟩
      have h1 := length_trim (foldD n (digP s s.size))
      have h2 := HN.out
      rw [foldD_length] at h1
      omega
    · rintro D c pre W hD ⟨k, hk, hpre⟩ ⟨⟨⟨rfl, ini, last, e1, h9⟩, hbR⟩, hB⟩ hK
      have hno : isNat s.data.toList = false := by
        rw [Bool.eq_false_iff]
        intro hy
        have hall := ((isNat_iff s).1 hy).2
        have hm : last.1 ∈ digP s k := by rw [← hpre, e1]; simp
        simp only [digP, List.mem_map, List.mem_range] at hm
        obtain ⟨t, ht, he⟩ := hm
        have h1 := dgt_le.2 (hall t (by omega))
        rw [← he] at h9
        simp only at h9
        omega
      have HNat := Lib.hid hno
      have hcR := hbR.cell
      clear hno hpre e1 h9
      gi_wp2
      refine ⟨by simp, .inl ⟨_, _, rfl, run_takeDeferred hK, ?_⟩⟩
      refine ⟨_, results_tmp2 rfl _ _ _, ?_⟩
      exact read_no HNat.out (hB.trans (belowK_b (w := w) (Nat.le_refl _) _ D _ _ (by rw [HS0.out] at hD; omega) hK rfl rfl))

set_option maxRecDepth 100000 in
set_option maxHeartbeats 400000 in
theorem read_not (s : ByteArray) (w : World) (hg : ¬ Goes s) : Calls Tryz.prog 72 #[.string s] w (ReadPost s.data.toList w) := by
  have HNat : Hid (isNat s.data.toList = false) := by
    show isNat s.data.toList = false
    rw [Bool.eq_false_iff]
    intro h
    exact hg ((isNat_iff s).1 h).1
  by_cases h0 : s.size = 0
  · have hd : s.toList = [] := by rw [Lib.toList_data]; exact List.eq_nil_of_length_eq_zero (by rw [← Lib.size_eq]; exact h0)
    clear hg h0
    go_enter Tryz.func72, Tryz.ntmps72
    go_wp2
    go_step3
    go_wp2
    rw [Exit.noGoto_ret]
    go_ret2
    exact read_no HNat.out (Below.refl _ _)
  · have hE2 : ¬ s.toList = [] := by intro h; rw [Lib.toList_data] at h; have := Lib.size_eq s; rw [h, List.length_nil] at this; exact h0 this
    have hE : s.toList.isEmpty = false := by cases h : s.toList with | nil => exact absurd h hE2 | cons => rfl
    by_cases h4 : 400 < s.size
    · have h400 : decide ((400 : Int) < (s.size : Int)) = true := by simp; omega
      clear hg h0
      go_enter Tryz.func72, Tryz.ntmps72
      go_wp2
      go_step3
      go_wp2
      try rw [Exit.noGoto_ret]
      go_ret2
      exact read_no HNat.out (Below.refl _ _)
    · have h400 : decide ((400 : Int) < (s.size : Int)) = false := by simp; omega
      have hs1 : 0 < s.size := by omega
      have hz : (byteAt s 0).toNat = 48 ∧ ¬ s.data.toList = [48] := by
        refine ⟨?_, ?_⟩
        · refine Decidable.byContradiction fun h => hg ⟨hs1, by omega, fun e => absurd e h⟩
        · intro h; exact hg ⟨hs1, by omega, fun _ => h⟩
      have h48 : (((s[0]'hs1).toNat : Int) == 48) = true := by rw [← byteAt_eq s 0 hs1, hz.1]; rfl
      have hne : (s.toList == [48]) = false := by rw [Lib.toList_data]; exact beq_eq_false_iff_ne.2 hz.2
      clear hg h0 hz
      go_enter Tryz.func72, Tryz.ntmps72
      go_wp2
      go_step3
      go_wp2
      try rw [Exit.noGoto_ret]
      go_ret2
      exact read_no HNat.out (Below.refl _ _)

/-- read: the limbs of a natural; false, if the text is none. -/
theorem read_calls (s : ByteArray) (w : World) : Calls Tryz.prog 72 #[.string s] w (ReadPost s.data.toList w) := by
  by_cases h : Goes s
  · exact read_main s w h
  · exact read_not s w h
end Go.Proofs.YtgcalhnfoakggaaGreatDoor
