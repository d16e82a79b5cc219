/- The walk of numbers. -/
import Derived.Test.YtfmhpeeecejpbaaWr1
import Derived.Lib.OthersKept
import Derived.Laws.RangeAny
namespace Go.Proofs.Ytfmhpeeecejpbaa
open Go.RowKit

/-- The way back of an alphabet. -/
structure Back (wd : Nat) (f g : Nat → Nat) : Prop where
  there : ∀ n, n < 2 ^ wd → g (f n) = n
  back : ∀ c, g c < 2 ^ wd → f (g c) = c
theorem back64 : Back 6 lettN numb := ⟨fun _ h => numb_lett (by omega), fun _ h => lett_numb (by omega)⟩
theorem back16 : Back 4 hexN unhex where
  there := fun n h => by have := unhex_hex (n := n) (by omega); rwa [hexd_toNat (by omega)] at this
  back := fun c h => by
    unfold unhex at h ⊢
    by_cases h1 : 48 ≤ c ∧ c ≤ 57
    · rw [if_pos h1]; unfold hexN; rw [if_pos (by omega)]; omega
    by_cases h2 : 97 ≤ c ∧ c ≤ 102
    · rw [if_neg h1, if_pos h2]; unfold hexN; rw [if_neg (by omega)]; omega
    · rw [if_neg h1, if_neg h2] at h; omega

/-- Are all of them letters? -/
def allL (wd : Nat) (g : Nat → Nat) (l : List UInt8) : Bool := l.all fun c => decide (g c.toNat < 2 ^ wd)
/-- Their numbers. -/
def numsL (g : Nat → Nat) (l : List UInt8) : List UInt8 := l.map fun c => UInt8.ofNat (g c.toNat)

/-- What numbers hands back. -/
def NumPost (wd : Nat) (g : Nat → Nat) (s : ByteArray) (w : World) (e : Ending) (w' : World) : Prop :=
  (allL wd g s.data.toList = true ∧ ∃ b cap, e = .returned (.tuple #[.slice (some ⟨b, 0, none⟩) s.size cap, .bool true]) ∧ w'.ownsRow w.heap.size 5 1 (.slice (some ⟨b, 0, none⟩) s.size cap) s.size ((numsL g s.data.toList).map encB) ∧ Below w.heap.size w w') ∨
  (allL wd g s.data.toList = false ∧ e = .returned (.tuple #[.slice none 0 0, .bool false]) ∧ Below w.heap.size w w')

/-- None of the first j letters is c. -/
def NoneB (f : Nat → Nat) (c j : Nat) : Prop := ∀ q, q < j → f q ≠ c

theorem next_rune {P : Program} (W : World) (k : Nat) (s : ByteArray) (pos : Nat) (hk : W.heap[k]? = some (.stringIter s pos)) (h : pos < s.size) :
    ∃ c δ : Nat, (∀ ty, (Instr.next (.pointer (some ⟨k, 0, none⟩)) true ty).run P W = .ok (.tuple #[.bool true, .int .i64 pos, .int .i32 (c : Int)]) (W.iterAt k s (pos + δ))) ∧ ((c = (byteAt s pos).toNat ∧ δ = 1) ∨ (128 ≤ c ∧ 128 ≤ (byteAt s pos).toNat)) := by
  by_cases ha : (s[pos]'h).toNat < 128
  · exact ⟨_, 1, fun ty => Lib.run_next_ascii_at W k s pos ty hk h ha, .inl ⟨by rw [byteAt_eq s pos h], rfl⟩⟩
  · exact ⟨_, _, fun ty => Lib.run_next_any_at W k s pos ty hk h, .inr ⟨(decode_high s pos h (by omega)).1, by rw [byteAt_eq s pos h]; omega⟩⟩

theorem noGoto_ret {Q : Exit → Act → World → Prop} {a : Act} {w : World} (h : Q .ret a w) : Exit.noGoto Q .ret a w := h
theorem allL_snoc (wd : Nat) (g : Nat → Nat) (l : List UInt8) (c : UInt8) : allL wd g (l ++ [c]) = (allL wd g l && decide (g c.toNat < 2 ^ wd)) := by simp [allL]
theorem numsL_snoc (g : Nat → Nat) (l : List UInt8) (c : UInt8) : numsL g (l ++ [c]) = numsL g l ++ [UInt8.ofNat (g c.toNat)] := by simp [numsL]
theorem in_case {wd : Nat} {f g : Nat → Nat} {A : Array Value} {s : ByteArray} {pos c δ j : Nat} (hA : Alph wd f A) (hB : Back wd f g) (hc : (c = (byteAt s pos).toNat ∧ δ = 1) ∨ (128 ≤ c ∧ 128 ≤ (byteAt s pos).toNat)) (hm : f j = c) (hj : j < 2 ^ wd) (hfj : f j < 128) :
    δ = 1 ∧ decide (g (byteAt s pos).toNat < 2 ^ wd) = true ∧ [UInt8.ofNat (g (byteAt s pos).toNat)].map encB = [.int .u8 (j : Int)] := by
  rcases hc with ⟨h1, h2⟩ | ⟨h1, _⟩
  · have e : g (byteAt s pos).toNat = j := by rw [← h1, ← hm]; exact hB.there j hj
    have h64 : 2 ^ wd ≤ 2 ^ 6 := Nat.pow_le_pow_right (by decide) hA.le
    refine ⟨h2, by rw [e]; simpa using hj, ?_⟩
    rw [e, List.map_singleton, encB, u8_nat _ (by omega)]
  · omega
theorem out_case {wd : Nat} {f g : Nat → Nat} {A : Array Value} {s : ByteArray} {pos c δ j : Nat} (hA : Alph wd f A) (hB : Back wd f g) (hc : (c = (byteAt s pos).toNat ∧ δ = 1) ∨ (128 ≤ c ∧ 128 ≤ (byteAt s pos).toNat)) (hno : NoneB f c j) (hj : 2 ^ wd ≤ j) (hp : pos < s.size) : allL wd g s.data.toList = false := by
  rw [Bool.eq_false_iff]
  intro h
  have hl : pos < s.data.toList.length := by rw [size_data]; exact hp
  have hm : byteAt s pos ∈ s.data.toList := by rw [byteAt_list, List.getElem?_eq_getElem hl]; exact List.getElem_mem hl
  have h1 := List.all_eq_true.1 h _ hm
  simp only [decide_eq_true_eq] at h1
  have h2 := hB.back _ h1
  rcases hc with ⟨h3, _⟩ | ⟨_, h3⟩
  · exact hno _ (Nat.lt_of_lt_of_le h1 hj) (by rw [h2, h3])
  · have := hA.small _ h1
    omega

set_option maxRecDepth 100000 in
set_option maxHeartbeats 1000000 in
theorem numbers_calls (wd : Nat) (f g : Nat → Nat) (A : Array Value) (hA : Alph wd f A) (hB : Back wd f g) (s : ByteArray) (w : World) (hs : s.size ≤ 1000) :
    Calls Try.prog 29 #[.agg A, .string s] w (NumPost wd g s w) := by
  have HA := Lib.hid hA
  have HBk := Lib.hid hB
  have hb := box_alph w A
  have hmk := fun W => run_make_bytes W s.size (by omega)
  have hwl := hA.le
  have hwp := hA.pos
  obtain ⟨i0, hi, hz0, hz1, hz2⟩ := info_parts info5
  have HI := Lib.hid hi
  have HZ0 := Lib.hid hz0
  have HZ1 := Lib.hid hz1
  have HZ2 := Lib.hid hz2
  obtain ⟨T, hT⟩ : ∃ T, T = 2 ^ wd := ⟨_, rfl⟩
  have hT64 : T ≤ 64 := by rw [hT]; exact (Nat.pow_le_pow_right (by decide) hwl : 2 ^ wd ≤ 2 ^ 6)
  have hTw : wrap64 (2 ^ wd) = (T : Int) := by
    have e : ((2 : Int) ^ wd) = (T : Int) := by rw [hT]; push_cast; rfl
    rw [e]; unfold wrap64; omega
  have HT := Lib.hid hT
  have HTw := Lib.hid hTw
  clear hA hB hi hz0 hz1 hz2 hT hTw
  go_enter Try.func29, Try.ntmps29
  go_wp2
  refine wp_scope_straight ?_
  go_wp2
  refine wp_label ?_
  go_wp2
  go_loopw [6] (fun v wr => ∃ (pos b cap : Nat), pos ≤ s.size ∧ v = .slice (some ⟨b, 0, none⟩) pos cap ∧ allL wd g (s.data.toList.take pos) = true ∧ wr.ownsRow w.heap.size 5 1 (.slice (some ⟨b, 0, none⟩) pos cap) pos ((numsL g (s.data.toList.take pos)).map encB) ∧
      wr.heap[w.heap.size + 1 + 1]? = some (.stringIter s pos) ∧ AtA wr w.heap.size A ∧ Below w.heap.size w wr ∧ b ≠ w.heap.size ∧ b ≠ w.heap.size + 1 + 1)
    (fun _ wr => s.size - wr.iterPos (w.heap.size + 1 + 1))
  case atStart =>
    refine ⟨0, w.heap.size + 1, s.size, Nat.zero_le _, rfl, rfl, ?_, ?_, ?_, ?_, by omega, by omega⟩
    · have := own_rowB (w.alloc (.cells A 32)) w.heap.size s.size (by simp) (by omega)
      rw [World.size_alloc] at this
      exact this.alloc _
    · have := World.iter_heap ((w.alloc (.cells A 32)).alloc (rowB s.size)) s 0
      simpa using this
    · exact (Below.heap_alloc _ _ _ (by simp; omega)).trans ((Below.heap_alloc _ _ _ (by simp)).trans (heap_alloc_last w _))
    · exact (((Below.refl _ w).alloc (Nat.le_refl _) _).alloc (by simp) _).alloc (by simp; omega) _
  case round =>
    obtain ⟨pos, b, cap, hpos, rfl, hall, hown, hit, hAt, hB, hb1, hb2⟩ := hrel
    have HAll := Lib.hid hall
    have HOwn := Lib.hid hown
    have HIt := Lib.hid hit
    have HAt := Lib.hid hAt
    have HB := Lib.hid hB
    clear hall hown hit hAt hB
    by_cases hp : pos < s.size
    · obtain ⟨c, δ, hnx, hcs⟩ := next_rune (P := Try.prog) wr (w.heap.size + 1 + 1) s pos HIt.out hp
      obtain ⟨W1, hW1⟩ : ∃ W1, W1 = wr.iterAt (w.heap.size + 1 + 1) s (pos + δ) := ⟨_, rfl⟩
      simp only [← hW1] at hnx
      have HIt1 : Hid (W1.heap[w.heap.size + 1 + 1]? = some (.stringIter s (pos + δ))) := Lib.hid (by rw [hW1]; exact Lib.iterAt_heap wr _ s pos _ HIt.out)
      have HAt1 : Hid (AtA W1 w.heap.size A) := Lib.hid (by rw [hW1]; exact (Lib.iterAt_other wr _ _ s _ (by omega)).trans HAt.out)
      have HB1 : Hid (Below w.heap.size w W1) := Lib.hid (by rw [hW1]; exact Lib.below_iterAt HB.out (by omega) s _)
      have HOwn1 : Hid (W1.ownsRow w.heap.size 5 1 (.slice (some ⟨b, 0, none⟩) pos cap) pos ((numsL g (s.data.toList.take pos)).map encB)) := Lib.hid (by
        rw [hW1]
        exact HOwn.out.kept (row := some (w.heap.size + 1 + 1)) ⟨rfl, rfl, rfl, by rw [Lib.iterAt_size]; exact Nat.le_refl _, fun k _ hk => Lib.iterAt_other wr _ _ s _ (fun e => hk (by rw [e]))⟩ (.inr (by simp only [Value.ownBlock]; intro e; exact hb2 (Option.some.inj e))))
      have hcw := (HAt1.out.cell 0).trans HA.out.width
      have HCs := Lib.hid hcs
      have hs1 : w.heap.size + 2 < W1.heap.size := (Array.getElem?_eq_some_iff.1 HIt1.out).1
      clear hW1 hcs
      go_wp2
      rw [HTw.out]
      go_loop [6, 21] (fun o i => o = .slice (some ⟨b, 0, none⟩) pos cap ∧ ∃ j : Nat, j ≤ T ∧ i = .int .i64 (j : Int) ∧ NoneB f c j) (fun _ i => T - (intOf i).toNat)
      case atStart => exact ⟨rfl, 0, Nat.zero_le _, rfl, fun q hq => by omega⟩
      case round =>
        obtain ⟨rfl, j, hj, rfl, hno⟩ := hrel
        have HNo := Lib.hid hno
        clear hno
        by_cases hjT : j < T
        · have hj2 : j < 2 ^ wd := by rw [← HT.out]; exact hjT
          have hcl : W1.cell? ⟨w.heap.size, 1 + j, none⟩ = some (.int .i32 (f j : Int)) := (HAt1.out.cell (1 + j)).trans (by rw [Nat.add_comm]; exact HA.out.letter j hj2)
          have hfj := HA.out.small j hj2
          have HJ2 := Lib.hid hj2
          have hji : (j : Int) < 64 := by omega
          clear hj2
          by_cases hm : f j = c
          · have hme : ((f j : Int) == (c : Int)) = true := by rw [hm]; simp
            have HM := Lib.hid hm
            clear hm
            go_wp2_with (at_builtin; refine wpList_append_lies _ rfl (.tmp 30) (.tmp 33) 35 rfl w.heap.size 5 i0 (.int .u8 0) 1 1 Try.underlying35 HI.out HZ0.out HZ1.out HZ2.out rfl (by decide) (.slice (some ⟨b, 0, none⟩) pos cap) _ _ rfl (HOwn1.out.alloc _) ⟨W1.heap.size, 0, none⟩ 1 1 [.int .u8 (j : Int)] rfl rfl (World.news_of_block (cs := #[.int .u8 (j : Int)]) (t := 5) (fr := (0, 0)) (heap_alloc_new W1 _)) (one1 _) (by decide) (by unfold maxLen; omega) (by omega) (by simp; omega) _ rfl ?_; intro b' cap' w2 hown2 hg2 hat2 hlt2)
            have hin := in_case HA.out HBk.out HCs.out HM.out HJ2.out hfj
            refine ⟨⟨pos + 1, b', cap', hp, rfl, ?_, ?_, ?_, ?_, ?_, ?_, ?_⟩, ?_⟩
            · rw [take_snoc s pos hp, allL_snoc, HAll.out, hin.2.1]; rfl
            · have := hown2
              rw [take_snoc s pos hp, numsL_snoc, List.map_append, hin.2.2]
              exact this
            · rw [show pos + 1 = pos + δ from by rw [hin.1]]
              exact (hg2.block _ (by simp; omega) (by simp only [Value.ownBlock]; intro e; exact hb2 (Option.some.inj e).symm)).trans ((Below.heap_alloc W1 _ _ (by omega)).trans HIt1.out)
            · exact (hg2.block _ (by simp; omega) (by simp only [Value.ownBlock]; intro e; exact hb1 (Option.some.inj e).symm)).trans ((Below.heap_alloc W1 _ _ (by omega)).trans HAt1.out)
            · exact (HB1.out.alloc HB1.out.size _).grown hg2 (by simp; omega) (fun k e => (HOwn1.out.lt k e).1)
            · rcases hat2 with h | h
              · have : b = b' := by simpa [Value.ownBlock] using h
                omega
              · simp at h; omega
            · rcases hat2 with h | h
              · have : b = b' := by simpa [Value.ownBlock] using h
                omega
              · simp at h; omega
            · have e1 : w2.iterPos (w.heap.size + 1 + 1) = pos + 1 := by
                have h3 : w2.heap[w.heap.size + 1 + 1]? = some (.stringIter s (pos + δ)) := (hg2.block _ (by simp; omega) (by simp only [Value.ownBlock]; intro e; exact hb2 (Option.some.inj e).symm)).trans ((Below.heap_alloc W1 _ _ (by omega)).trans HIt1.out)
                rw [World.iterPos, h3, hin.1]
              have e2 : wr.iterPos (w.heap.size + 1 + 1) = pos := by rw [World.iterPos, HIt.out]
              rw [e1, e2]; omega
          · have hme : ((f j : Int) == (c : Int)) = false := beq_eq_false_iff_ne.2 (by omega)
            have HM := Lib.hid hm
            clear hm
            go_wp2
            go_round
            case rel => exact ⟨rfl, j + 1, hjT, by go_num, fun q hq => by
              rcases Nat.lt_succ_iff_lt_or_eq.1 hq with h | h
              · exact HNo.out q h
              · rw [h]; exact HM.out⟩
            case measure => simp [intOf]; omega
        · have hout := out_case HA.out HBk.out HCs.out HNo.out (by have := HT.out; omega) hp
          have HOut := Lib.hid hout
          clear hout
          go_wp2
          go_ret2
          exact .inr ⟨HOut.out, rfl, HB1.out⟩
    · have hnx := fun ty => Lib.run_next_end_at (P := Try.prog) wr (w.heap.size + 1 + 1) s pos ty HIt.out hp
      obtain rfl : pos = s.size := by omega
      have HTk : Hid (s.data.toList.take s.size = s.data.toList) := Lib.hid (List.take_of_length_le (by rw [size_data]; exact Nat.le_refl _))
      rw [HTk.out] at HAll HOwn
      go_wp2
      refine noGoto_ret ?_
      go_ret2
      exact .inl ⟨HAll.out, b, cap, rfl, HOwn.out, HB.out⟩
end Go.Proofs.Ytfmhpeeecejpbaa
