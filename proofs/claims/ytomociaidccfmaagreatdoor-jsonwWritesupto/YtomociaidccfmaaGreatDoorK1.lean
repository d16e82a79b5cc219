/- The document's own: Quote. -/
import Derived.Test.YtomociaidccfmaaGreatDoorNa
import Derived.Test.YtomociaidccfmaaGreatDoorNd
namespace Go.Proofs.YtomociaidccfmaaGreatDoor
open Go.RowKit

theorem getq (s : ByteArray) (i : Nat) (h : i < s.size) : s.get! i = s[i] := getElem!_pos s.data i h
theorem qPre_one {s : ByteArray} {pos c : Nat} (h : pos < s.size) (hc : (s[pos]'h).toNat = c) : qPre s (pos + 1) = qPre s pos ++ escL (UInt8.ofNat c) := by
  rw [qPre_more (n := 1) (by omega)]
  have e : bytesAt s pos 1 = [UInt8.ofNat c] := by
    rw [← hc, UInt8.ofNat_toNat, ← getq s pos h]
    simp [bytesAt]
  rw [e, escAll, List.flatMap_cons, List.flatMap_nil, List.append_nil]
theorem escL_rest {c : Nat} (h : ¬ isLet c) (hc : 32 ≤ c) (h2 : c < 256) : escL (UInt8.ofNat c) = [UInt8.ofNat c] := by
  by_cases h3 : c < 128
  · exact escL_self h hc h3
  · exact escL_high (by rw [UInt8.toNat_ofNat', Nat.mod_eq_of_lt (by omega)]; omega)
set_option maxRecDepth 100000 in
theorem rQuote_no (s : ByteArray) (w : World) (hU : utfW s 0 = false) : Calls Tryz.prog 23 #[.string s] w fun o w' => o = .returned (.tuple #[.string ⟨#[]⟩, .int .i64 20]) ∧ Below w.heap.size w w' := by
  have HR : Hid (Calls Tryz.prog 43 #[.string s] w (BolP false w)) := Lib.hid (by rw [← hU]; exact rUtf_calls s w)
  clear hU
  go_enter Tryz.func23, Tryz.ntmps23
  go_wp2_with fail
  refine HR.out.mono ?_
  rintro o w1 ⟨rfl, hb1⟩
  go_wp2_with fail
  go_ret2
  exact ⟨rfl, hb1⟩
set_option maxRecDepth 100000 in
set_option maxHeartbeats 2000000 in
theorem rQuote_yes (s : ByteArray) (w : World) (hU : utfW s 0 = true) (hs : s.size ≤ 100000) : Calls Tryz.prog 23 #[.string s] w fun o w' => o = .returned (.tuple #[.string (quoteB s), .int .i64 0]) ∧ Below w.heap.size w w' := by
  obtain ⟨i0, hi, hz0, hz1, hz2⟩ := info_parts (show (Tryz.prog.info? 5).map (fun i => (i.zero, i.size, i.bytes)) = some (some (.int .u8 0), 1, 1) by kernel_rfl)
  have HI := Lib.hid hi
  have HZ0 := Lib.hid hz0
  have HZ1 := Lib.hid hz1
  have HZ2 := Lib.hid hz2
  have HS := Lib.hid hs
  clear hi hz0 hz1 hz2
  have HR : Hid (Calls Tryz.prog 43 #[.string s] w (BolP true w)) := Lib.hid (by rw [← hU]; exact rUtf_calls s w)
  clear hU hs
  have hs2 : (s.size : Int) ≤ 100000 := by have := HS.out; omega
  go_enter Tryz.func23, Tryz.ntmps23
  go_wp2_with fail
  refine HR.out.mono ?_
  rintro o w1 ⟨rfl, hb1⟩
  have HB1 := Lib.hid hb1
  clear hb1
  go_wp2_with fail
  obtain ⟨W0, hW0⟩ : ∃ W0, W0 = w1.alloc (.cells #[.int .u8 34] 5) := ⟨_, rfl⟩
  have HO0 : Hid (W0.ownsRowF w.heap.size 5 1 (.slice (some ⟨w1.heap.size, 0, none⟩) 1 1) (qPre s 0).length (Lib.byteCells (qPre s 0))) := Lib.hid (World.ownsRowF_of ⟨by simp [qPre, escAll, Lib.byteCells], .inr ⟨w1.heap.size, 1, _, rfl, HB1.out.size, by rw [hW0]; exact heap_alloc_new w1 _, Nat.le_refl _, by decide, rfl, rfl⟩⟩)
  have HB0 : Hid (Below w.heap.size w W0) := Lib.hid (by rw [hW0]; exact below_a HB1.out _)
  rw [← hW0]
  clear hW0
  obtain ⟨L, hL⟩ : ∃ L : ByteArray, L = ⟨#[48, 49, 50, 51, 52, 53, 54, 55, 56, 57, 97, 98, 99, 100, 101, 102]⟩ := ⟨_, rfl⟩
  rw [← hL]
  have HL := Lib.hid hL
  clear hL
  go_loopw [5, 6] (fun v i wr => ∃ pos : Nat, i = .int .i64 pos ∧ pos ≤ s.size ∧ wr.ownsRowF w.heap.size 5 1 v (qPre s pos).length (Lib.byteCells (qPre s pos)) ∧ Below w.heap.size w wr) (fun _ i _ => s.size - (intOf i).toNat)
  case atStart => exact ⟨0, rfl, Nat.zero_le _, HO0.out, HB0.out⟩
  case round =>
    obtain ⟨pos, rfl, hp, hv, hb⟩ := hrel
    have HV := Lib.hid hv
    have HB := Lib.hid hb
    obtain ⟨ar, nr, cr, rfl⟩ : ∃ ao n' cap, u5 = .slice ao n' cap := by
      rcases hv.2 with ⟨hv, _⟩ | ⟨g, cap, cur, fz, hv, _⟩
      · exact ⟨_, _, _, hv⟩
      · exact ⟨_, _, _, hv⟩
    clear hv hb HO0 HB0
    by_cases hlt : pos < s.size
    · obtain ⟨c, hc⟩ : ∃ c, (s[pos]'hlt).toNat = c := ⟨_, rfl⟩
      have hc256 : c < 256 := by rw [← hc]; exact (s[pos]'hlt).toNat_lt
      have HMore := Lib.hid (qPre_one hlt hc)
      have done : ∀ (v : Value) (o : Obj) (w5 : World), (wr.alloc o).grownBy w5 (Value.ownBlock (.slice ar nr cr)) → w5.ownsRowF w.heap.size 5 1 v (qPre s (pos + 1)).length (Lib.byteCells (qPre s (pos + 1))) →
          w5.ownsRowF w.heap.size 5 1 v (qPre s (pos + 1)).length (Lib.byteCells (qPre s (pos + 1))) ∧ Below w.heap.size w w5 := by
        intro v o w5 hg hown
        exact ⟨hown, (HB.out.alloc HB.out.size o).grown hg (by have := HB.out.size; simp; omega) (fun k e => ((HV.out.lt k e).1))⟩
      have HD := Lib.hid done
      clear done
      by_cases hl : isLet c
      · rcases hl with rfl | rfl | rfl | rfl | rfl | rfl | rfl
        · have HE : Hid (escL (UInt8.ofNat 34) = [92, 34]) := Lib.hid (by decide)
          go_wp2_with (at_builtin; refine wpList_append_ownF _ rfl _ _ 48 rfl w.heap.size 5 i0 (.int .u8 0) 1 1 Tryz.underlying48 HI.out HZ0.out HZ1.out HZ2.out rfl (by decide) _ _ _ rfl (HV.out.alloc _) ⟨wr.heap.size, 0, none⟩ 2 2 [Value.int .u8 92, .int .u8 34] rfl rfl (cells_new wr [Value.int .u8 92, .int .u8 34] _) (by intro u hu; simp at hu; rcases hu with rfl | rfl <;> rfl) (by have := qPre_len s pos; have := HS.out; unfold maxLen; omega) (by have := qPre_len s pos; have := HS.out; omega) (by have := HB.out.size; simp; omega) ?_; intro v5 w5 hown5 hg5 _)
          obtain ⟨a6, n6, c6, rfl⟩ : ∃ ao n' cap, v5 = .slice ao n' cap := by
            rcases hown5.2 with ⟨hv, _⟩ | ⟨g, cap, cur, fz, hv, _⟩
            · exact ⟨_, _, _, hv⟩
            · exact ⟨_, _, _, hv⟩
          have HRr := Lib.hid (HD.out _ _ _ hg5 (row_more hown5 (B := [92, 34]) rfl (by rw [HMore.out, HE.out]) rfl))
          clear hown5 hg5
          go_wp2
          go_roundw
          case rel => exact ⟨pos + 1, by go_num, hlt, HRr.out.1, HRr.out.2⟩
          case measure => simp [intOf]; omega
        · have HE : Hid (escL (UInt8.ofNat 92) = [92, 92]) := Lib.hid (by decide)
          go_wp2_with (at_builtin; refine wpList_append_ownF _ rfl _ _ 48 rfl w.heap.size 5 i0 (.int .u8 0) 1 1 Tryz.underlying48 HI.out HZ0.out HZ1.out HZ2.out rfl (by decide) _ _ _ rfl (HV.out.alloc _) ⟨wr.heap.size, 0, none⟩ 2 2 [Value.int .u8 92, .int .u8 92] rfl rfl (cells_new wr [Value.int .u8 92, .int .u8 92] _) (by intro u hu; simp at hu; rcases hu with rfl | rfl <;> rfl) (by have := qPre_len s pos; have := HS.out; unfold maxLen; omega) (by have := qPre_len s pos; have := HS.out; omega) (by have := HB.out.size; simp; omega) ?_; intro v5 w5 hown5 hg5 _)
          obtain ⟨a6, n6, c6, rfl⟩ : ∃ ao n' cap, v5 = .slice ao n' cap := by
            rcases hown5.2 with ⟨hv, _⟩ | ⟨g, cap, cur, fz, hv, _⟩
            · exact ⟨_, _, _, hv⟩
            · exact ⟨_, _, _, hv⟩
          have HRr := Lib.hid (HD.out _ _ _ hg5 (row_more hown5 (B := [92, 92]) rfl (by rw [HMore.out, HE.out]) rfl))
          clear hown5 hg5
          go_wp2
          go_roundw
          case rel => exact ⟨pos + 1, by go_num, hlt, HRr.out.1, HRr.out.2⟩
          case measure => simp [intOf]; omega
        · have HE : Hid (escL (UInt8.ofNat 8) = [92, 98]) := Lib.hid (by decide)
          go_wp2_with (at_builtin; refine wpList_append_ownF _ rfl _ _ 48 rfl w.heap.size 5 i0 (.int .u8 0) 1 1 Tryz.underlying48 HI.out HZ0.out HZ1.out HZ2.out rfl (by decide) _ _ _ rfl (HV.out.alloc _) ⟨wr.heap.size, 0, none⟩ 2 2 [Value.int .u8 92, .int .u8 98] rfl rfl (cells_new wr [Value.int .u8 92, .int .u8 98] _) (by intro u hu; simp at hu; rcases hu with rfl | rfl <;> rfl) (by have := qPre_len s pos; have := HS.out; unfold maxLen; omega) (by have := qPre_len s pos; have := HS.out; omega) (by have := HB.out.size; simp; omega) ?_; intro v5 w5 hown5 hg5 _)
          obtain ⟨a6, n6, c6, rfl⟩ : ∃ ao n' cap, v5 = .slice ao n' cap := by
            rcases hown5.2 with ⟨hv, _⟩ | ⟨g, cap, cur, fz, hv, _⟩
            · exact ⟨_, _, _, hv⟩
            · exact ⟨_, _, _, hv⟩
          have HRr := Lib.hid (HD.out _ _ _ hg5 (row_more hown5 (B := [92, 98]) rfl (by rw [HMore.out, HE.out]) rfl))
          clear hown5 hg5
          go_wp2
          go_roundw
          case rel => exact ⟨pos + 1, by go_num, hlt, HRr.out.1, HRr.out.2⟩
          case measure => simp [intOf]; omega
        · have HE : Hid (escL (UInt8.ofNat 12) = [92, 102]) := Lib.hid (by decide)
          go_wp2_with (at_builtin; refine wpList_append_ownF _ rfl _ _ 48 rfl w.heap.size 5 i0 (.int .u8 0) 1 1 Tryz.underlying48 HI.out HZ0.out HZ1.out HZ2.out rfl (by decide) _ _ _ rfl (HV.out.alloc _) ⟨wr.heap.size, 0, none⟩ 2 2 [Value.int .u8 92, .int .u8 102] rfl rfl (cells_new wr [Value.int .u8 92, .int .u8 102] _) (by intro u hu; simp at hu; rcases hu with rfl | rfl <;> rfl) (by have := qPre_len s pos; have := HS.out; unfold maxLen; omega) (by have := qPre_len s pos; have := HS.out; omega) (by have := HB.out.size; simp; omega) ?_; intro v5 w5 hown5 hg5 _)
          obtain ⟨a6, n6, c6, rfl⟩ : ∃ ao n' cap, v5 = .slice ao n' cap := by
            rcases hown5.2 with ⟨hv, _⟩ | ⟨g, cap, cur, fz, hv, _⟩
            · exact ⟨_, _, _, hv⟩
            · exact ⟨_, _, _, hv⟩
          have HRr := Lib.hid (HD.out _ _ _ hg5 (row_more hown5 (B := [92, 102]) rfl (by rw [HMore.out, HE.out]) rfl))
          clear hown5 hg5
          go_wp2
          go_roundw
          case rel => exact ⟨pos + 1, by go_num, hlt, HRr.out.1, HRr.out.2⟩
          case measure => simp [intOf]; omega
        · have HE : Hid (escL (UInt8.ofNat 10) = [92, 110]) := Lib.hid (by decide)
          go_wp2_with (at_builtin; refine wpList_append_ownF _ rfl _ _ 48 rfl w.heap.size 5 i0 (.int .u8 0) 1 1 Tryz.underlying48 HI.out HZ0.out HZ1.out HZ2.out rfl (by decide) _ _ _ rfl (HV.out.alloc _) ⟨wr.heap.size, 0, none⟩ 2 2 [Value.int .u8 92, .int .u8 110] rfl rfl (cells_new wr [Value.int .u8 92, .int .u8 110] _) (by intro u hu; simp at hu; rcases hu with rfl | rfl <;> rfl) (by have := qPre_len s pos; have := HS.out; unfold maxLen; omega) (by have := qPre_len s pos; have := HS.out; omega) (by have := HB.out.size; simp; omega) ?_; intro v5 w5 hown5 hg5 _)
          obtain ⟨a6, n6, c6, rfl⟩ : ∃ ao n' cap, v5 = .slice ao n' cap := by
            rcases hown5.2 with ⟨hv, _⟩ | ⟨g, cap, cur, fz, hv, _⟩
            · exact ⟨_, _, _, hv⟩
            · exact ⟨_, _, _, hv⟩
          have HRr := Lib.hid (HD.out _ _ _ hg5 (row_more hown5 (B := [92, 110]) rfl (by rw [HMore.out, HE.out]) rfl))
          clear hown5 hg5
          go_wp2
          go_roundw
          case rel => exact ⟨pos + 1, by go_num, hlt, HRr.out.1, HRr.out.2⟩
          case measure => simp [intOf]; omega
        · have HE : Hid (escL (UInt8.ofNat 13) = [92, 114]) := Lib.hid (by decide)
          go_wp2_with (at_builtin; refine wpList_append_ownF _ rfl _ _ 48 rfl w.heap.size 5 i0 (.int .u8 0) 1 1 Tryz.underlying48 HI.out HZ0.out HZ1.out HZ2.out rfl (by decide) _ _ _ rfl (HV.out.alloc _) ⟨wr.heap.size, 0, none⟩ 2 2 [Value.int .u8 92, .int .u8 114] rfl rfl (cells_new wr [Value.int .u8 92, .int .u8 114] _) (by intro u hu; simp at hu; rcases hu with rfl | rfl <;> rfl) (by have := qPre_len s pos; have := HS.out; unfold maxLen; omega) (by have := qPre_len s pos; have := HS.out; omega) (by have := HB.out.size; simp; omega) ?_; intro v5 w5 hown5 hg5 _)
          obtain ⟨a6, n6, c6, rfl⟩ : ∃ ao n' cap, v5 = .slice ao n' cap := by
            rcases hown5.2 with ⟨hv, _⟩ | ⟨g, cap, cur, fz, hv, _⟩
            · exact ⟨_, _, _, hv⟩
            · exact ⟨_, _, _, hv⟩
          have HRr := Lib.hid (HD.out _ _ _ hg5 (row_more hown5 (B := [92, 114]) rfl (by rw [HMore.out, HE.out]) rfl))
          clear hown5 hg5
          go_wp2
          go_roundw
          case rel => exact ⟨pos + 1, by go_num, hlt, HRr.out.1, HRr.out.2⟩
          case measure => simp [intOf]; omega
        · have HE : Hid (escL (UInt8.ofNat 9) = [92, 116]) := Lib.hid (by decide)
          go_wp2_with (at_builtin; refine wpList_append_ownF _ rfl _ _ 48 rfl w.heap.size 5 i0 (.int .u8 0) 1 1 Tryz.underlying48 HI.out HZ0.out HZ1.out HZ2.out rfl (by decide) _ _ _ rfl (HV.out.alloc _) ⟨wr.heap.size, 0, none⟩ 2 2 [Value.int .u8 92, .int .u8 116] rfl rfl (cells_new wr [Value.int .u8 92, .int .u8 116] _) (by intro u hu; simp at hu; rcases hu with rfl | rfl <;> rfl) (by have := qPre_len s pos; have := HS.out; unfold maxLen; omega) (by have := qPre_len s pos; have := HS.out; omega) (by have := HB.out.size; simp; omega) ?_; intro v5 w5 hown5 hg5 _)
          obtain ⟨a6, n6, c6, rfl⟩ : ∃ ao n' cap, v5 = .slice ao n' cap := by
            rcases hown5.2 with ⟨hv, _⟩ | ⟨g, cap, cur, fz, hv, _⟩
            · exact ⟨_, _, _, hv⟩
            · exact ⟨_, _, _, hv⟩
          have HRr := Lib.hid (HD.out _ _ _ hg5 (row_more hown5 (B := [92, 116]) rfl (by rw [HMore.out, HE.out]) rfl))
          clear hown5 hg5
          go_wp2
          go_roundw
          case rel => exact ⟨pos + 1, by go_num, hlt, HRr.out.1, HRr.out.2⟩
          case measure => simp [intOf]; omega
      · have n0 : ((c : Int) == 34) = false := by simp; intro e; exact hl (by unfold isLet; omega)
        have n1 : ((c : Int) == 92) = false := by simp; intro e; exact hl (by unfold isLet; omega)
        have n2 : ((c : Int) == 8) = false := by simp; intro e; exact hl (by unfold isLet; omega)
        have n3 : ((c : Int) == 12) = false := by simp; intro e; exact hl (by unfold isLet; omega)
        have n4 : ((c : Int) == 10) = false := by simp; intro e; exact hl (by unfold isLet; omega)
        have n5 : ((c : Int) == 13) = false := by simp; intro e; exact hl (by unfold isLet; omega)
        have n6 : ((c : Int) == 9) = false := by simp; intro e; exact hl (by unfold isLet; omega)
        by_cases h32 : c < 32
        · have hd : decide (c < 32) = true := by simpa using h32
          have HE := Lib.hid (escL_low hl h32)
          obtain ⟨k0, hk0⟩ : ∃ n, n = c / 16 := ⟨_, rfl⟩
          obtain ⟨k1, hk1⟩ : ∃ n, n = c % 16 := ⟨_, rfl⟩
          have hLs : L.size = 16 := by rw [HL.out]; rfl
          have l0 : k0 < L.size := by omega
          have l1 : k1 < L.size := by omega
          have hxd : ∀ (k : Nat) (hk : k < L.size), (L[k]'hk) = hexd k := by
            intro k hk
            have : ∀ k : Fin 16, (⟨#[48, 49, 50, 51, 52, 53, 54, 55, 56, 57, 97, 98, 99, 100, 101, 102]⟩ : ByteArray).data[k.1]?.getD 0 = hexd k.1 := by decide
            have h := this ⟨k, by omega⟩
            have hL := HL.out
            subst hL
            rw [← h]
            show _ = ((_ : Array UInt8)[k]?).getD 0
            rw [Array.getElem?_eq_getElem (show k < 16 from hk)]
            rfl
          have v0 : (L[k0]'l0).toNat = (hexd k0).toNat := by rw [hxd]
          have v1 : (L[k1]'l1).toNat = (hexd k1).toNat := by rw [hxd]
          have i1 : (k0 : Int) < (L.size : Int) := by omega
          have i2 : (k1 : Int) < (L.size : Int) := by omega
          have q0 : (c : Int).tdiv 16 = (k0 : Int) := by rw [hk0]; rfl
          have q1 : (c : Int).tmod 16 = (k1 : Int) := by rw [hk1]; rfl
          have q2 : (c : Int) / 16 = (k0 : Int) := by omega
          have q4 : IntKind.u8.wrap (k0 : Int) = (k0 : Int) := by rw [IntKind.wrap_u8]; omega
          have q3 : (c : Int) % 16 = (k1 : Int) := by omega
          rw [← hk0, ← hk1] at HE
          obtain ⟨x0, hx0⟩ : ∃ x : Nat, x = (hexd k0).toNat := ⟨_, rfl⟩
          obtain ⟨x1, hx1⟩ : ∃ x : Nat, x = (hexd k1).toNat := ⟨_, rfl⟩
          rw [← hx0] at v0
          rw [← hx1] at v1
          have HX : Hid (Lib.byteCells [92, 117, 48, 48, hexd k0, hexd k1] = [Value.int .u8 92, .int .u8 117, .int .u8 48, .int .u8 48, .int .u8 (x0 : Int), .int .u8 (x1 : Int)]) := Lib.hid (by rw [hx0, hx1]; rfl)
          obtain ⟨v5, w5, hrun, hown5, hg5, _⟩ := run_append_ownF (P := Tryz.prog) (w := (wr.alloc (.cells #[.int .u8 92, .int .u8 117, .int .u8 48, .int .u8 48, .int .u8 (x0 : Int), .int .u8 (x1 : Int)] 5)).drew) w.heap.size 48 48 5 i0 (.int .u8 0) 1 1 Tryz.underlying48 HI.out HZ0.out HZ1.out HZ2.out rfl (by decide) (.slice ar nr cr) _ _ (HV.out.alloc _) ⟨wr.heap.size, 0, none⟩ 6 6 [Value.int .u8 92, .int .u8 117, .int .u8 48, .int .u8 48, .int .u8 (x0 : Int), .int .u8 (x1 : Int)] rfl (cells_new wr [Value.int .u8 92, .int .u8 117, .int .u8 48, .int .u8 48, .int .u8 (x0 : Int), .int .u8 (x1 : Int)] _) (by intro u hu; simp at hu; rcases hu with rfl | rfl | rfl | rfl | rfl <;> rfl) (by have := qPre_len s pos; have := HS.out; unfold maxLen; omega) (by have := qPre_len s pos; have := HS.out; omega) (by have := HB.out.size; show _ ≤ (wr.alloc _).heap.size; simp; omega)
          obtain ⟨a6, n6, c6, rfl⟩ : ∃ ao n' cap, v5 = .slice ao n' cap := by
            rcases hown5.2 with ⟨hv, _⟩ | ⟨g, cap, cur, fz, hv, _⟩
            · exact ⟨_, _, _, hv⟩
            · exact ⟨_, _, _, hv⟩
          have HRr := Lib.hid (HD.out _ _ _ (⟨hg5.os, hg5.tape, hg5.output, hg5.size, hg5.block⟩ : (wr.alloc _).grownBy w5 _) (row_more hown5 (B := [92, 117, 48, 48, hexd k0, hexd k1]) HX.out (by rw [HMore.out, HE.out]) rfl))
          have HRun := Lib.hid hrun
          clear hxd hLs hk0 hk1 hx0 hx1 hown5 hg5 hrun hl
          go_upto_region 11 with fail
          go_region_law (refine step_app_run (v := .slice ar nr cr) (u := .slice (some ⟨wr.heap.size, 0, none⟩) 6 6) rfl rfl (by simp [Act.eval]) (by simp [Act.eval]) HRun.out ?_)
          all_goals go_wp2
          all_goals go_roundw
          all_goals first
            | exact ⟨pos + 1, by go_num, hlt, HRr.out.1, HRr.out.2⟩
            | (simp [intOf]; omega)
            | ((repeat apply Exists.intro); exact ⟨⟨pos + 1, by go_num, hlt, HRr.out.1, HRr.out.2⟩, rfl⟩)
        · have hd : decide (c < 32) = false := by simpa using h32
          have HE := Lib.hid (escL_rest hl (by omega) hc256)
          have HX : Hid (Lib.byteCells [UInt8.ofNat c] = [Value.int .u8 (c : Int)]) := Lib.hid (by simp [Lib.byteCells]; omega)
          clear hl
          go_wp2_with (at_builtin; refine wpList_append_ownF _ rfl _ _ 48 rfl w.heap.size 5 i0 (.int .u8 0) 1 1 Tryz.underlying48 HI.out HZ0.out HZ1.out HZ2.out rfl (by decide) _ _ _ rfl (HV.out.alloc _) ⟨wr.heap.size, 0, none⟩ 1 1 [Value.int .u8 (c : Int)] rfl rfl (cells_new wr [Value.int .u8 (c : Int)] _) (by intro u hu; simp at hu; subst hu; rfl) (by have := qPre_len s pos; have := HS.out; unfold maxLen; omega) (by have := qPre_len s pos; have := HS.out; omega) (by have := HB.out.size; simp; omega) ?_; intro v5 w5 hown5 hg5 _)
          obtain ⟨a6, n6, c6, rfl⟩ : ∃ ao n' cap, v5 = .slice ao n' cap := by
            rcases hown5.2 with ⟨hv, _⟩ | ⟨g, cap, cur, fz, hv, _⟩
            · exact ⟨_, _, _, hv⟩
            · exact ⟨_, _, _, hv⟩
          have HRr := Lib.hid (HD.out _ _ _ hg5 (row_more hown5 (B := [UInt8.ofNat c]) HX.out (by rw [HMore.out, HE.out]) rfl))
          clear hown5 hg5
          go_wp2
          go_roundw
          case rel => exact ⟨pos + 1, by go_num, hlt, HRr.out.1, HRr.out.2⟩
          case measure => simp [intOf]; omega
    · have hpe : pos = s.size := by omega
      have HEn : Hid (qPre s pos ++ [34] = (quoteB s).data.toList) := Lib.hid (by rw [hpe, qPre, List.take_of_length_le (by rw [Array.length_toList]; exact Nat.le_refl _)]; rfl)
      clear hpe
      go_wp2_with (at_builtin; refine wpList_append_ownF _ rfl _ _ 48 rfl w.heap.size 5 i0 (.int .u8 0) 1 1 Tryz.underlying48 HI.out HZ0.out HZ1.out HZ2.out rfl (by decide) _ _ _ rfl (HV.out.alloc _) ⟨wr.heap.size, 0, none⟩ 1 1 (Lib.byteCells [34]) rfl rfl (cells_new wr (Lib.byteCells [34]) _) one_cells (by have := qPre_len s pos; have := HS.out; unfold maxLen; omega) (by have := qPre_len s pos; have := HS.out; omega) (by have := HB.out.size; simp; omega) ?_; intro v5 w5 hown5 hg5 _; have hcv := conv_F (row_more hown5 (B := [34]) rfl rfl rfl) (by simp [qPre]))
      go_ret2
      refine ⟨?_, ?_⟩
      · rw [HEn.out]
        rfl
      · exact (HB.out.alloc HB.out.size _).grown hg5 (by have := HB.out.size; simp; omega) (fun k e => (HV.out.lt k e).1)
end Go.Proofs.YtomociaidccfmaaGreatDoor
