/- The walks of the question for the digits ahead of a point, and of run with it. -/
import Derived.Test.YtifccjchpciicaaGreatDoorE6
import Derived.Laws.EntriesVeiled
namespace Go.Proofs.YtifccjchpciicaaGreatDoor
open Go.RowKit
open Go.Lib (decDigits nDigits)

set_option maxRecDepth 100000 in
theorem anyDigit_calls (w : World) : Calls Tryz.prog 72 #[] w fun o w' => o = .returned (.func (.func 95) #[] #[]) ∧ w = w' := by
  go_enter Tryz.func72, Tryz.ntmps72
  go_wp2
  go_ret
  exact ⟨rfl, rfl⟩

/-- What wholeDigit has laid. -/
structure WhAt (W : World) (n : Nat) (bg cl : Bool) : Prop where
  q : W.heap[n]? = some (.cells #[.func (.func 95) #[] #[]] 76 (0, 0))
  r : W.heap[n + 1]? = some (.cells #[.bool bg] 4 (0, 0))
  p : W.heap[n + 1 + 1]? = some (.cells #[.bool cl] 4 (0, 0))
def whF (n : Nat) : Value := .func (.func 73) #[] #[.pointer (some ⟨n + 1 + 1, 0, none⟩), .pointer (some ⟨n, 0, none⟩), .pointer (some ⟨n + 1, 0, none⟩)]
def wh0 (w : World) : World := ((w.alloc (.cells #[.func (.func 95) #[] #[]] 76)).alloc (.cells #[.bool false] 4)).alloc (.cells #[.bool false] 4)
theorem wh0_q (w : World) : (wh0 w).heap[w.heap.size]? = some (.cells #[.func (.func 95) #[] #[]] 76 (0, 0)) :=
  (Below.heap_alloc _ _ _ (by simp; omega)).trans ((Below.heap_alloc _ _ _ (by simp)).trans (heap_alloc_new w _))
theorem wh0_r (w : World) : (wh0 w).heap[w.heap.size + 1]? = some (.cells #[.bool false] 4 (0, 0)) :=
  (Below.heap_alloc _ _ _ (by simp)).trans (by have := heap_alloc_new (w.alloc (.cells #[.func (.func 95) #[] #[]] 76)) (.cells #[.bool false] 4); rwa [World.size_alloc] at this)
theorem wh0_p (w : World) : (wh0 w).heap[w.heap.size + 1 + 1]? = some (.cells #[.bool false] 4 (0, 0)) := by
  have := heap_alloc_new ((w.alloc (.cells #[.func (.func 95) #[] #[]] 76)).alloc (.cells #[.bool false] 4)) (.cells #[.bool false] 4)
  rw [World.size_alloc, World.size_alloc] at this
  exact this
theorem wh0_below (w : World) : Below w.heap.size w (wh0 w) := (((Below.refl _ w).alloc (Nat.le_refl _) _).alloc (by simp) _).alloc (by simp; omega) _
theorem one_cell {W : World} {B : Nat} {v : Value} {T : TypeId} (h : W.heap[B]? = some (.cells #[v] T (0, 0))) : W.cell? ⟨B, 0, none⟩ = some v := by simp [World.cell?, h]
theorem one_frozen {W : World} {B : Nat} {v : Value} {T : TypeId} (h : W.heap[B]? = some (.cells #[v] T (0, 0))) : W.frozen? ⟨B, 0, none⟩ = false := frozen_of_row W B 0 _ _ h
set_option maxRecDepth 100000 in
theorem wholeDigit_calls (w : World) : Calls Tryz.prog 49 #[] w fun o w' => o = .returned (whF w.heap.size) ∧ WhAt w' w.heap.size false false ∧ w'.heap.size = w.heap.size + 1 + 1 + 1 ∧ Below w.heap.size w w' := by
  have hmf : ∀ (fn : Fn) (first cap : Array Value) (w : World), (Instr.makeFunc fn first cap).run Tryz.prog w = .ok (.func fn first cap) w := fun _ _ _ _ => rfl
  go_enter Tryz.func49, Tryz.ntmps49
  go_wp2_with (go_at_call 72; refine (anyDigit_calls _).mono ?_; rintro o w1 ⟨rfl, rfl⟩)
  go_ret
  exact ⟨rfl, ⟨wh0_q w, wh0_r w, wh0_p w⟩, by simp, wh0_below w⟩

set_option maxRecDepth 100000 in
theorem whole1_no (c : Int) (P Q R : Nat) (cl : Bool) (w : World) (hP : w.cell? ⟨P, 0, none⟩ = some (.bool cl)) (hQ : w.cell? ⟨Q, 0, none⟩ = some (.func (.func 95) #[] #[])) (h : cl = true ∨ (cl = false ∧ (decide (48 ≤ c) && decide (c ≤ 57)) = false)) :
    Calls Tryz.prog 73 #[.int .i32 c, .pointer (some ⟨P, 0, none⟩), .pointer (some ⟨Q, 0, none⟩), .pointer (some ⟨R, 0, none⟩)] w fun o w' => o = .returned (.bool false) ∧ w' = w := by
  rcases h with rfl | ⟨rfl, h⟩
  · go_enter Tryz.func73, Tryz.ntmps73
    go_wp2
    go_ret
    exact ⟨rfl, rfl⟩
  · have HC := Lib.hid (fun w => any1_is c false w h)
    clear h
    go_enter Tryz.func73, Tryz.ntmps73
    go_wp2_with (go_at_call 95; refine (HC.out _).mono ?_; rintro o w2 ⟨rfl, rfl⟩)
    go_ret
    exact ⟨rfl, rfl⟩

set_option maxRecDepth 100000 in
theorem whole1_yes (c : Int) (P Q R : Nat) (bg z : Bool) (w : World) (hP : w.cell? ⟨P, 0, none⟩ = some (.bool false)) (hQ : w.cell? ⟨Q, 0, none⟩ = some (.func (.func 95) #[] #[])) (hR : w.cell? ⟨R, 0, none⟩ = some (.bool bg)) (hPR : P ≠ R) (fP : w.frozen? ⟨P, 0, none⟩ = false) (fR : w.frozen? ⟨R, 0, none⟩ = false) (h : (decide (48 ≤ c) && decide (c ≤ 57)) = true) (hz : (c == 48) = z) :
    Calls Tryz.prog 73 #[.int .i32 c, .pointer (some ⟨P, 0, none⟩), .pointer (some ⟨Q, 0, none⟩), .pointer (some ⟨R, 0, none⟩)] w fun o w' => o = .returned (.bool true) ∧ w' = (w.setCell ⟨P, 0, none⟩ (.bool (!bg && z))).setCell ⟨R, 0, none⟩ (.bool true) := by
  have HC := Lib.hid (fun w => any1_is c true w h)
  have hPR2 : ¬ R = P := fun e => hPR e.symm
  clear h
  cases bg
  · go_enter Tryz.func73, Tryz.ntmps73
    go_wp2_with (go_at_call 95; refine (HC.out _).mono ?_; rintro o w2 ⟨rfl, rfl⟩)
    go_ret
    exact ⟨rfl, rfl⟩
  · go_enter Tryz.func73, Tryz.ntmps73
    go_wp2_with (go_at_call 95; refine (HC.out _).mono ?_; rintro o w2 ⟨rfl, rfl⟩)
    go_ret
    exact ⟨rfl, rfl⟩

/-- How far the digits ahead of a point are gone through. -/
def LeadSt (s : ByteArray) (pos : Nat) (bg cl : Bool) : Prop :=
  (pos = 0 ∧ bg = false ∧ cl = false) ∨ (pos = 1 ∧ (byteAt s 0).toNat = 48 ∧ bg = true ∧ cl = true) ∨ (0 < pos ∧ (byteAt s 0).toNat ≠ 48 ∧ Digd s pos ∧ bg = true ∧ cl = false)
theorem head48 {s : ByteArray} (h : 0 < s.size) : s.data.toList.head? = some 48 ↔ (byteAt s 0).toNat = 48 := by
  rw [head_byte h, Option.some.injEq]
  exact ⟨fun e => by rw [e]; rfl, fun e => UInt8.toNat_inj.1 e⟩
theorem isD48 {c : UInt8} (h : c.toNat = 48) : isD c = true := (isD_iff c).2 (by omega)
theorem lead_stop {s : ByteArray} {pos : Nat} {bg cl : Bool} (h : LeadSt s pos bg cl) (hp : pos < s.size) (hn : cl = true ∨ (cl = false ∧ isD (byteAt s pos) = false)) : leadN s.data.toList = pos := by
  rcases h with ⟨rfl, rfl, rfl⟩ | ⟨rfl, h1, rfl, rfl⟩ | ⟨h0, h1, h2, rfl, rfl⟩
  · have hd : isD (byteAt s 0) = false := by rcases hn with h | h; cases h; exact h.2
    rw [leadN, if_neg]
    · exact digd_stop (fun q hq => by omega) hp hd
    · rw [head48 hp]; intro e; rw [isD48 e] at hd; cases hd
  · rw [leadN, if_pos ((head48 (by omega)).2 h1)]
  · have hd : isD (byteAt s pos) = false := by rcases hn with h | h; cases h; exact h.2
    rw [leadN, if_neg (fun e => h1 ((head48 (by omega)).1 e))]
    exact digd_stop h2 hp hd
theorem lead_end {s : ByteArray} {bg cl : Bool} (h : LeadSt s s.size bg cl) : leadN s.data.toList = s.size := by
  rcases h with ⟨h0, rfl, rfl⟩ | ⟨h0, h1, rfl, rfl⟩ | ⟨h0, h1, h2, rfl, rfl⟩
  · rw [h0, nil_of h0]; rfl
  · rw [leadN, if_pos ((head48 (by omega)).2 h1), h0]
  · rw [leadN, if_neg (fun e => h1 ((head48 (by omega)).1 e))]
    exact digd_end h2
theorem lead_go {s : ByteArray} {pos : Nat} {bg z : Bool} (h : LeadSt s pos bg false) (hd : isD (byteAt s pos) = true) (hz : z = decide ((byteAt s pos).toNat = 48)) : LeadSt s (pos + 1) true (!bg && z) := by
  rcases h with ⟨rfl, rfl, _⟩ | ⟨_, _, _, h⟩ | ⟨h0, h1, h2, rfl, _⟩
  · by_cases h48 : (byteAt s 0).toNat = 48
    · have : z = true := by rw [hz]; simpa using h48
      rw [this]
      exact .inr (.inl ⟨rfl, h48, rfl, rfl⟩)
    · have : z = false := by rw [hz]; simpa using h48
      rw [this]
      exact .inr (.inr ⟨by omega, h48, digd_succ (fun q hq => by omega) hd, rfl, rfl⟩)
  · cases h
  · exact .inr (.inr ⟨by omega, h1, digd_succ h2 hd, rfl, rfl⟩)
theorem rune_48 {s : ByteArray} {pos c δ : Nat} (h : (c = (byteAt s pos).toNat ∧ δ = 1) ∨ (128 ≤ c ∧ 128 ≤ (byteAt s pos).toNat)) : ((c : Int) == 48) = decide ((byteAt s pos).toNat = 48) := by
  rcases h with ⟨h1, _⟩ | ⟨h1, h2⟩
  · rw [h1]
    by_cases h3 : (byteAt s pos).toNat = 48
    · rw [h3]; rfl
    · rw [show decide ((byteAt s pos).toNat = 48) = false from by simpa using h3]; simp; omega
  · rw [show decide ((byteAt s pos).toNat = 48) = false from by simp; omega]; simp; omega

set_option maxRecDepth 100000 in
set_option maxHeartbeats 1000000 in
theorem run_whole (B : Nat) (s : ByteArray) (n : Bool) (wh fr : ByteArray) (le : Bool) (po : ByteArray) (w0 w : World) (h : RdAt w0 B s n wh fr le po) (hW : WhAt w w0.heap.size false false) (hz : w.heap.size = w0.heap.size + 1 + 1 + 1) (hb : Below w0.heap.size w0 w) :
    Calls Tryz.prog 48 #[.pointer (some ⟨B, 0, none⟩), whF w0.heap.size] w fun o w' => o = .returned (.string (s.extract 0 (leadN s.data.toList))) ∧ RdAt w' B (s.extract (leadN s.data.toList) s.size) n wh fr le po ∧ Kb B w0 w' := by
  have HR := Lib.hid h
  have hBl := h.lt
  have HR0 := Lib.hid (h.below hb)
  have c0 := HR0.out.c0
  obtain ⟨n0, hn0⟩ : ∃ n0, n0 = w0.heap.size := ⟨_, rfl⟩
  rw [← hn0] at hW hz hb hBl ⊢
  have HN0 := Lib.hid hn0
  have HZ := Lib.hid hz
  have HB0 := Lib.hid hb
  have HW0 := Lib.hid hW
  clear h hW hb hn0 hz
  unfold whF
  go_enter Tryz.func48, Tryz.ntmps48
  go_wp2
  refine wp_scope_straight ?_
  go_wp2
  refine wp_label ?_
  go_wp2
  go_loopw [5] (fun v wr => ∃ (pos : Nat) (bg cl : Bool), pos ≤ s.size ∧ v = .int .i64 (s.size : Int) ∧ LeadSt s pos bg cl ∧ WhAt wr n0 bg cl ∧ wr.heap[w.heap.size]? = some (.stringIter s pos) ∧ Below n0 w0 wr) (fun _ wr => s.size - wr.iterPos w.heap.size)
  case atStart =>
    refine ⟨0, false, false, Nat.zero_le _, rfl, .inl ⟨rfl, rfl, rfl⟩, ?_, World.iter_heap w s 0, ?_⟩
    · have hz := HZ.out
      have ha := (Below.refl w.heap.size w).alloc (Nat.le_refl _) (.stringIter s 0)
      exact ⟨(ha.block _ (by omega)).trans HW0.out.q, (ha.block _ (by omega)).trans HW0.out.r, (ha.block _ (by omega)).trans HW0.out.p⟩
    · exact HB0.out.alloc (by have := HZ.out; omega) _
  case round =>
    obtain ⟨pos, bg, cl, hpos, rfl, hst, hwh, hit, hB⟩ := hrel
    have HSt := Lib.hid hst
    have HWh := Lib.hid hwh
    have HIt := Lib.hid hit
    have HB := Lib.hid hB
    clear hst hwh hit hB
    by_cases hp : pos < s.size
    · obtain ⟨c, δ, hnx, hcs⟩ := next_rune (P := Tryz.prog) wr w.heap.size s pos HIt.out hp
      obtain ⟨W1, hW1⟩ : ∃ W1, W1 = wr.iterAt w.heap.size s (pos + δ) := ⟨_, rfl⟩
      simp only [← hW1] at hnx
      have HIt1 : Hid (W1.heap[w.heap.size]? = some (.stringIter s (pos + δ))) := Lib.hid (by rw [hW1]; exact Lib.iterAt_heap wr _ s pos _ HIt.out)
      have HB1 : Hid (Below n0 w0 W1) := Lib.hid (by rw [hW1]; exact Lib.below_iterAt HB.out (by have := HZ.out; omega) s _)
      have HWh1 : Hid (WhAt W1 n0 bg cl) := Lib.hid (by
        have hz := HZ.out
        rw [hW1]
        exact ⟨(Lib.iterAt_other wr _ _ s _ (by omega)).trans HWh.out.q, (Lib.iterAt_other wr _ _ s _ (by omega)).trans HWh.out.r, (Lib.iterAt_other wr _ _ s _ (by omega)).trans HWh.out.p⟩)
      have HCs := Lib.hid hcs
      clear hW1 hcs
      by_cases hn : cl = true ∨ (cl = false ∧ isD (byteAt s pos) = false)
      · have HC := Lib.hid (whole1_no (c : Int) (n0 + 1 + 1) n0 (n0 + 1) cl W1 (one_cell HWh1.out.p) (one_cell HWh1.out.q) (by rw [rune_dig HCs.out]; exact hn))
        have HN : Hid (leadN s.data.toList = pos) := Lib.hid (lead_stop HSt.out hp hn)
        have HR1 := Lib.hid (HR.out.below (by rw [← HN0.out]; exact HB1.out))
        have k0 := HR1.out.c0
        have kf := HR1.out.f 0
        have hpi : (pos : Int) ≤ (s.size : Int) := by omega
        clear hn c0
        go_wp2_with (go_at_call 73; refine HC.out.mono ?_; rintro o w2 ⟨rfl, rfl⟩)
        refine noGoto_ret ?_
        go_ret
        rw [HN.out]
        exact ⟨rfl, HR1.out.s0 _, (Kb.ofBelow (by rw [← HN0.out]; exact HB1.out)).setCell 0 _⟩
      · obtain ⟨rfl, hd⟩ : cl = false ∧ isD (byteAt s pos) = true := by
          cases cl
          · exact ⟨rfl, by cases hx : isD (byteAt s pos); exact absurd (.inr ⟨rfl, hx⟩) hn; rfl⟩
          · exact absurd (.inl rfl) hn
        have HC := Lib.hid (whole1_yes (c : Int) (n0 + 1 + 1) n0 (n0 + 1) bg _ W1 (one_cell HWh1.out.p) (one_cell HWh1.out.q) (one_cell HWh1.out.r) (by omega) (one_frozen HWh1.out.p) (one_frozen HWh1.out.r) (by rw [rune_dig HCs.out]; exact hd) (rune_48 HCs.out))
        have HD := Lib.hid hd
        clear hn hd
        go_wp2_with (go_at_call 73; refine HC.out.mono ?_; rintro o w2 ⟨rfl, rfl⟩)
        have hδ := rune_one HCs.out HD.out
        have hz := HZ.out
        have hit2 : ((W1.setCell ⟨n0 + 1 + 1, 0, none⟩ (.bool (!bg && decide ((byteAt s pos).toNat = 48)))).setCell ⟨n0 + 1, 0, none⟩ (.bool true)).heap[w.heap.size]? = some (.stringIter s (pos + 1)) :=
          (heap_setCell_other _ ⟨n0 + 1, 0, none⟩ _ _ (by show _ ≠ n0 + 1; omega)).trans ((heap_setCell_other _ ⟨n0 + 1 + 1, 0, none⟩ _ _ (by show _ ≠ n0 + 1 + 1; omega)).trans (by rw [HIt1.out, hδ]))
        refine ⟨⟨pos + 1, true, _, hp, rfl, lead_go HSt.out HD.out rfl, ⟨?_, ?_, ?_⟩, hit2, ?_⟩, ?_⟩
        · exact (heap_setCell_other _ ⟨n0 + 1, 0, none⟩ _ _ (by show _ ≠ n0 + 1; omega)).trans ((heap_setCell_other _ ⟨n0 + 1 + 1, 0, none⟩ _ _ (by show _ ≠ n0 + 1 + 1; omega)).trans HWh1.out.q)
        · exact heap_setCell_same _ (n0 + 1) 0 _ _ (.bool true) ((heap_setCell_other _ ⟨n0 + 1 + 1, 0, none⟩ _ _ (by show _ ≠ n0 + 1 + 1; omega)).trans HWh1.out.r)
        · exact (heap_setCell_other _ ⟨n0 + 1, 0, none⟩ _ _ (by show _ ≠ n0 + 1; omega)).trans (heap_setCell_same _ (n0 + 1 + 1) 0 _ _ (.bool (!bg && decide ((byteAt s pos).toNat = 48))) HWh1.out.p)
        · exact (HB1.out.setCell (p := ⟨n0 + 1 + 1, 0, none⟩) (by show n0 ≤ n0 + 1 + 1; omega) _).setCell (p := ⟨n0 + 1, 0, none⟩) (by show n0 ≤ n0 + 1; omega) _
        · rw [World.iterPos, World.iterPos, hit2, HIt.out]
          show s.size - (pos + 1) < s.size - pos
          omega
    · have hnx := fun ty => Lib.run_next_end_at (P := Tryz.prog) wr w.heap.size s pos ty HIt.out hp
      obtain rfl : pos = s.size := by omega
      have HN : Hid (leadN s.data.toList = s.size) := Lib.hid (lead_end HSt.out)
      have HR1 := Lib.hid (HR.out.below (by rw [← HN0.out]; exact HB.out))
      have k0 := HR1.out.c0
      have kf := HR1.out.f 0
      clear c0
      go_wp2
      refine noGoto_ret ?_
      go_ret
      rw [HN.out, ext_end, ext_all]
      exact ⟨rfl, HR1.out.s0 _, (Kb.ofBelow (by rw [← HN0.out]; exact HB.out)).setCell 0 _⟩
end Go.Proofs.YtifccjchpciicaaGreatDoor
