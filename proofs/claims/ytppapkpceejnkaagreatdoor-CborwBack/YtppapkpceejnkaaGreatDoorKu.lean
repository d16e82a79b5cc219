/- What writes a float. What writes a float; a writer made. -/
import Derived.Test.YtppapkpceejnkaaGreatDoorKt
import Derived.LoopN
import Derived.Deep.RegionHeld3
namespace Go.Proofs.YtppapkpceejnkaaGreatDoor
open Go.RowKit

theorem cat_e (s : ByteArray) : s ++ (ByteArray.mk #[]) = s := str_inj (by rw [app_data]; simp)
theorem bigL_at : ∀ (n a j : Nat), j < n → (bigL n a)[j]? = some (UInt8.ofNat (a / 2 ^ (8 * (n - 1 - j))))
  | 0, _, _, h => by omega
  | n + 1, a, 0, _ => by
    rw [bigL, List.getElem?_cons_zero, show (256 : Nat) = 2 ^ 8 from rfl, ← Nat.pow_mul]
    rfl
  | n + 1, a, j + 1, h => by
    rw [bigL, List.getElem?_cons_succ, bigL_at n a j (by omega), show n + 1 - 1 - (j + 1) = n - 1 - j by omega]
theorem bigL_take {n a j : Nat} (h : j < n) : (bigL n a).take (j + 1) = (bigL n a).take j ++ [UInt8.ofNat (a / 2 ^ (8 * (n - 1 - j)))] := by
  rw [List.take_add_one, bigL_at n a j h]
  rfl
/-- The last so many bytes. -/
def bitB (n u : Nat) : ByteArray := ⟨(bigL n u).toArray⟩
section
variable {w0 W : World} {b M : Nat} {t : ByteArray}
set_option maxRecDepth 100000 in
set_option maxHeartbeats 1000000 in
theorem putC_calls (c : UInt8) (S : Nat) (hS : Bx W S #[.int .u8 (c.toNat : Int)] 5) (hSb : S ≠ b) (h : Wk w0 b M t W) (hlen : t.size ≤ 1000000000000) :
    Calls Tryz.prog 153 #[.pointer (some ⟨b, 0, none⟩), .slice (some ⟨S, 0, none⟩) 1 1] W (PutC w0 b M (t ++ ⟨#[c]⟩) W) := by
  have HW := Lib.hid (wByte_calls c S hS hSb h (by omega))
  clear h hS
  go_enter Tryz.func153, Tryz.ntmps153
  go_wp2_with fail
  refine HW.out.mono ?_
  rintro o w2 ⟨rfl, h2, hk2⟩
  have H2 := Lib.hid h2
  have HK2 := Lib.hid hk2
  clear h2 hk2
  go_wp2
  go_end0
  exact ⟨rfl, H2.out, HK2.out⟩
theorem byte_of (u k : Nat) : (u : Int) / 2 ^ k % 256 = ((UInt8.ofNat (u / 2 ^ k)).toNat : Int) := by
  rw [UInt8.toNat_ofNat']
  simp
set_option maxRecDepth 100000 in
set_option maxHeartbeats 4000000 in
theorem bitsC_calls (n u : Nat) (hn : n = 2 ∨ n = 4 ∨ n = 8) (h : Wk w0 b M t W) (hlen : t.size ≤ 900000000000) :
    Calls Tryz.prog 154 #[.pointer (some ⟨b, 0, none⟩), .int .u64 (u : Int), .int .i64 (8 * (n : Int))] W (PutC w0 b M (t ++ bitB n u) W) := by
  have H := Lib.hid h
  clear h
  go_enter Tryz.func154, Tryz.ntmps154
  go_wp2
  go_loopw [6] (fun i wr => ∃ j : Nat, i = .int .i64 (8 * ((n : Int) - 1 - j)) ∧ j ≤ n ∧ Wk w0 b M (t ++ ⟨((bigL n u).take j).toArray⟩) wr ∧ Ok w0 b W wr) (fun i _ => (intOf i + 8).toNat)
  case atStart => exact ⟨0, by go_num, Nat.zero_le _, by rw [List.take_zero, show (⟨([] : List UInt8).toArray⟩ : ByteArray) = ⟨#[]⟩ from rfl, cat_e]; exact H.out, Ok.refl⟩
  case round =>
    obtain ⟨j, rfl, hj, hw, hk⟩ := hrel
    have HW := Lib.hid hw
    have HK := Lib.hid hk
    clear hw hk
    by_cases hgo : j < n
    · have HBy := Lib.hid (byte_of u (8 * (n - 1 - j)))
      have HT1 : Hid (t ++ ⟨((bigL n u).take (j + 1)).toArray⟩ = t ++ ⟨((bigL n u).take j).toArray⟩ ++ ⟨#[UInt8.ofNat (u / 2 ^ (8 * (n - 1 - j)))]⟩) := Lib.hid (str_inj (by rw [bigL_take hgo]; simp))
      have HLb : Hid (b < wr.heap.size) := Lib.hid HW.out.lt
      have hsz : (t ++ ⟨((bigL n u).take j).toArray⟩ : ByteArray).size ≤ 1000000000000 := by
        rw [ByteArray.size_append]
        have h5 : (⟨((bigL n u).take j).toArray⟩ : ByteArray).size = ((bigL n u).take j).length := by show (List.toArray _).size = _; simp
        rw [h5, List.length_take, bigL_len]
        omega
      go_wp2_with fail
      rw [HBy.out]
      refine (putC_calls _ wr.heap.size (Bx.new _ _ _) (by have := HLb.out; omega) (HW.out.alloc _) hsz).mono ?_
      rintro o w2 ⟨rfl, h2, hk2⟩
      have H2 := Lib.hid h2
      have HK2 := Lib.hid ((HK.out.alloc HW.out.base _).trans hk2)
      clear h2 hk2
      go_wp2
      go_roundw
      case measure => simp [intOf]; omega
      case rel => exact ⟨j + 1, by go_num, by omega, by rw [HT1.out]; exact H2.out, HK2.out⟩
    · obtain rfl : j = n := by omega
      go_wp2
      go_end0
      have h5 := HW.out
      rw [List.take_of_length_le (by rw [bigL_len]; exact Nat.le_refl _)] at h5
      exact ⟨rfl, h5, HK.out⟩
end
end Go.Proofs.YtppapkpceejnkaaGreatDoor
namespace Go.Proofs.YtppapkpceejnkaaGreatDoor
open Go.RowKit

theorem updP {w : World} {es : Array MapEntry} {clock : Nat} {a : Int} {v : Value} (h : Instr.findNow (.int .i64) (.int .i64 a) es.toList 0 = some none) :
    (Instr.mapUpdate 135 (.map (some w.heap.size)) (.int .i64 a) v).run Tryz.prog (w.alloc (.map es clock)) = .ok () (w.alloc (.map (es.push { key := .int .i64 a, val := v, born := clock }) (clock + 1))) := by
  have hk : MapKept.IsKey (.int .i64) (.int .i64 a) := rfl
  have hb : (w.alloc (.map es clock)).heap[w.heap.size]? = some (.map es clock) := heap_alloc_new w _
  simp [Instr.mapUpdate, run_underlying Tryz.underlying135, MapKept.run_getObj_map hb, MapKept.run_checkKey Tryz.underlying3 hk, MapKept.run_findKey Tryz.underlying3 h, MapKept.run_setObj_map _ hb, Result.andThen]
  have e : (w.alloc (.map es clock)).heap.setIfInBounds w.heap.size (.map (es.push { key := .int .i64 a, val := v, born := clock }) (clock + 1)) = (w.alloc (.map (es.push { key := .int .i64 a, val := v, born := clock }) (clock + 1))).heap := by
    show (w.heap.push _).setIfInBounds w.heap.size _ = w.heap.push _
    apply Array.toList_inj.1
    simp
  rw [e]
  rfl
theorem updF {w : World} {es : Array MapEntry} {clock : Nat} {a : Int} {v : Value} (h : Instr.findNow (.int .i64) (.int .i64 a) es.toList 0 = some none) :
    (Instr.mapUpdate 216 (.map (some w.heap.size)) (.int .i64 a) v).run Tryz.prog (w.alloc (.map es clock)) = .ok () (w.alloc (.map (es.push { key := .int .i64 a, val := v, born := clock }) (clock + 1))) := by
  have hk : MapKept.IsKey (.int .i64) (.int .i64 a) := rfl
  have hb : (w.alloc (.map es clock)).heap[w.heap.size]? = some (.map es clock) := heap_alloc_new w _
  simp [Instr.mapUpdate, run_underlying Tryz.underlying216, MapKept.run_getObj_map hb, MapKept.run_checkKey Tryz.underlying3 hk, MapKept.run_findKey Tryz.underlying3 h, MapKept.run_setObj_map _ hb, Result.andThen]
  have e : (w.alloc (.map es clock)).heap.setIfInBounds w.heap.size (.map (es.push { key := .int .i64 a, val := v, born := clock }) (clock + 1)) = (w.alloc (.map (es.push { key := .int .i64 a, val := v, born := clock }) (clock + 1))).heap := by
    show (w.heap.push _).setIfInBounds w.heap.size _ = w.heap.push _
    apply Array.toList_inj.1
    simp
  rw [e]
  rfl
def floE : List MapEntry := [⟨.int .i64 16, .int .u8 25, 0⟩, ⟨.int .i64 32, .int .u8 26, 1⟩, ⟨.int .i64 64, .int .u8 27, 2⟩]
def floN (i : Nat) : Array MapEntry := (floE.take i).toArray
section
variable {w0 W : World} {b M : Nat} {t : ByteArray}

set_option maxRecDepth 100000 in
set_option maxHeartbeats 1000000 in
theorem flo16_calls (kd : Int) (bb neg : Bool) (dig : ByteArray) (exp : Int) (u : Nat) (s : ByteArray) (A : Option Addr) (q c : Nat) (h : Wk w0 b M t W) (hlen : t.size ≤ 100000000000) :
    Calls Tryz.prog 110 #[.pointer (some ⟨b, 0, none⟩), .agg #[.int .i64 kd, .bool bb, .bool neg, .string dig, .int .i64 exp, .int .u64 (u : Int), .int .i64 16, .string s, .slice A q c]] W (PutC w0 b M (t ++ ⟨#[UInt8.ofNat (32 * 7 + 25)]⟩ ++ bitB 2 u) W) := by
  have hmm := @run_makeMap Tryz.prog
  have hne : W.heap.size ≠ b := by have := h.lt; omega
  have hXs : (W.alloc (.cells #[.int .i64 kd, .bool bb, .bool neg, .string dig, .int .i64 exp, .int .u64 (u : Int), .int .i64 16, .string s, .slice A q c] 28)).heap.size = W.heap.size + 1 := by simp
  have u0 : (Instr.mapUpdate 216 (.map (some (W.heap.size + 1))) (.int .i64 16) (.int .u8 25)).run Tryz.prog ((W.alloc (.cells #[.int .i64 kd, .bool bb, .bool neg, .string dig, .int .i64 exp, .int .u64 (u : Int), .int .i64 16, .string s, .slice A q c] 28)).alloc (.map #[] 0)) = .ok () ((W.alloc (.cells #[.int .i64 kd, .bool bb, .bool neg, .string dig, .int .i64 exp, .int .u64 (u : Int), .int .i64 16, .string s, .slice A q c] 28)).alloc (.map (floN 1) 1)) := by
    have := updF (w := (W.alloc (.cells #[.int .i64 kd, .bool bb, .bool neg, .string dig, .int .i64 exp, .int .u64 (u : Int), .int .i64 16, .string s, .slice A q c] 28))) (es := #[]) (clock := 0) (a := 16) (v := .int .u8 25) (by rfl)
    rw [hXs] at this
    exact this
  have u1 : (Instr.mapUpdate 216 (.map (some (W.heap.size + 1))) (.int .i64 32) (.int .u8 26)).run Tryz.prog ((W.alloc (.cells #[.int .i64 kd, .bool bb, .bool neg, .string dig, .int .i64 exp, .int .u64 (u : Int), .int .i64 16, .string s, .slice A q c] 28)).alloc (.map (floN 1) 1)) = .ok () ((W.alloc (.cells #[.int .i64 kd, .bool bb, .bool neg, .string dig, .int .i64 exp, .int .u64 (u : Int), .int .i64 16, .string s, .slice A q c] 28)).alloc (.map (floN 2) 2)) := by
    have := updF (w := (W.alloc (.cells #[.int .i64 kd, .bool bb, .bool neg, .string dig, .int .i64 exp, .int .u64 (u : Int), .int .i64 16, .string s, .slice A q c] 28))) (es := floN 1) (clock := 1) (a := 32) (v := .int .u8 26) (by rfl)
    rw [hXs] at this
    exact this
  have u2 : (Instr.mapUpdate 216 (.map (some (W.heap.size + 1))) (.int .i64 64) (.int .u8 27)).run Tryz.prog ((W.alloc (.cells #[.int .i64 kd, .bool bb, .bool neg, .string dig, .int .i64 exp, .int .u64 (u : Int), .int .i64 16, .string s, .slice A q c] 28)).alloc (.map (floN 2) 2)) = .ok () ((W.alloc (.cells #[.int .i64 kd, .bool bb, .bool neg, .string dig, .int .i64 exp, .int .u64 (u : Int), .int .i64 16, .string s, .slice A q c] 28)).alloc (.map (floN 3) 3)) := by
    have := updF (w := (W.alloc (.cells #[.int .i64 kd, .bool bb, .bool neg, .string dig, .int .i64 exp, .int .u64 (u : Int), .int .i64 16, .string s, .slice A q c] 28))) (es := floN 2) (clock := 2) (a := 64) (v := .int .u8 27) (by rfl)
    rw [hXs] at this
    exact this
  obtain ⟨W1, hW1⟩ : ∃ W1, W1 = (W.alloc (.cells #[.int .i64 kd, .bool bb, .bool neg, .string dig, .int .i64 exp, .int .u64 (u : Int), .int .i64 16, .string s, .slice A q c] 28)).alloc (.map (floN 3) 3) := ⟨_, rfl⟩
  have H1 : Hid (Wk w0 b M t W1) := Lib.hid (by rw [hW1]; exact (h.alloc _).alloc _)
  have HK1 : Hid (Ok w0 b W W1) := Lib.hid (by rw [hW1]; exact (Ok.refl.alloc h.base _).alloc (h.alloc _).base _)
  have HX : Hid (Bx W1 W.heap.size #[.int .i64 kd, .bool bb, .bool neg, .string dig, .int .i64 exp, .int .u64 (u : Int), .int .i64 16, .string s, .slice A q c] 28) := Lib.hid (by rw [hW1]; exact (Bx.new W _ _).alloc _)
  have HMp : Hid (W1.heap[W.heap.size + 1]? = some (.map (floN 3) 3)) := Lib.hid (by rw [hW1, ← hXs]; exact heap_alloc_new _ _)
  have hq : W1.cell? ⟨W.heap.size, 6, none⟩ = some (.int .i64 16) := HX.out.c 6 rfl
  have hs1 : W1.heap.size = W.heap.size + 2 := by rw [hW1]; simp
  have hlk : ∀ V : World, V.heap[W.heap.size + 1]? = some (.map (floN 3) 3) → (Instr.lookup 216 (.map (some (W.heap.size + 1))) (.int .i64 16) false).run Tryz.prog V = .ok (.int .u8 25) V := fun V hV => by
    have hk : MapKept.IsKey (.int .i64) (.int .i64 16) := rfl
    simp [Instr.lookup, run_underlying Tryz.underlying216, MapKept.run_getObj_map hV, MapKept.run_checkKey Tryz.underlying3 hk, MapKept.run_findKey Tryz.underlying3 (show Instr.findNow (.int .i64) (.int .i64 16) (floN 3).toList 0 = some (some (0, .int .u8 25)) from rfl), Result.andThen]
  have HLk := Lib.hid hlk
  have hmxH : Tryz.prog.follows .mixedOrders = true := by kernel_rfl
  have HBits := Lib.hid (fun V (t' : ByteArray) (hV : Wk w0 b M t' V) (ht : t'.size ≤ 900000000000) => bitsC_calls (W := V) 2 u (by decide) hV ht)
  rw [show (8 * ((2 : Nat) : Int)) = 16 by decide] at HBits
  have HPut := Lib.hid (fun V S (hS : Bx V S #[.int .u8 ((UInt8.ofNat (32 * 7 + 25)).toNat : Int)] 5) (hn : S ≠ b) (hV : Wk w0 b M t V) => putC_calls (W := V) (UInt8.ofNat (32 * 7 + 25)) S hS hn hV (by omega))
  rw [show ((UInt8.ofNat (32 * 7 + 25)).toNat : Int) = 249 by decide] at HPut
  rw [← hW1] at u2
  have hlb : b < W.heap.size := h.lt
  have hor : bits BinOp.or IntKind.u8 224 25 = 249 := by decide
  clear h hXs hlk hW1
  go_enter Tryz.func110, Tryz.ntmps110
  go_wp2_with fail
  refine wp_region_held_drew (S := fun w' => w'.cell? ⟨W.heap.size, 6, none⟩ = some (.int .i64 16) ∧ w'.heap[W.heap.size + 1]? = some (.map (floN 3) 3)) hmxH ⟨hq, HMp.out⟩ ?_
  clear hq u0 u1 u2
  obtain ⟨V1, hV1⟩ : ∃ V1, V1 = W1.drew := ⟨_, rfl⟩
  have HW1 : Hid (Wk w0 b M t V1) := Lib.hid (by rw [hV1]; exact H1.out.drew)
  have HV1 : Hid (Ok w0 b W1 V1) := Lib.hid (by rw [hV1]; exact (Ok.refl (b := b)).drew)
  have HXV : Hid (Bx V1 W.heap.size #[.int .i64 kd, .bool bb, .bool neg, .string dig, .int .i64 exp, .int .u64 (u : Int), .int .i64 16, .string s, .slice A q c] 28) := Lib.hid (by rw [hV1]; exact HX.out)
  have HMV : Hid (V1.heap[W.heap.size + 1]? = some (.map (floN 3) 3)) := Lib.hid (by rw [hV1]; exact HMp.out)
  have HSV : Hid (V1.heap.size = W.heap.size + 2) := Lib.hid (by rw [hV1]; exact hs1)
  rw [← hV1]
  clear hV1 hs1
  intro hHeld
  refine wpAnyH_take (i := 0) (v := .pointer (some ⟨b, 0, none⟩)) rfl (by kernel_rfl) (by kernel_rfl) (by kernel_rfl) (fun _ _ _ h => h) (Or.inl ⟨by rfl, by rintro w ⟨h0, h1⟩; go_simp⟩) hHeld ?_
  refine wpAnyH_take (i := 1) (v := .pointer (some ⟨b, 0, none⟩)) rfl (by kernel_rfl) (by kernel_rfl) (by kernel_rfl) (fun _ _ _ h => h) (Or.inl ⟨by rfl, by rintro w ⟨h0, h1⟩; go_simp⟩) hHeld ?_
  refine wpAnyH_take (i := 2) (v := .pointer (some ⟨b, 0, none⟩)) rfl (by kernel_rfl) (by kernel_rfl) (by kernel_rfl) (fun _ _ _ h => h) (Or.inl ⟨by rfl, by rintro w ⟨h0, h1⟩; go_simp⟩) hHeld ?_
  refine wpAnyH_take (i := 3) (v := .map (some (W.heap.size + 1))) rfl (by kernel_rfl) (by kernel_rfl) (by kernel_rfl) (fun _ _ _ h => h) (Or.inl ⟨by rfl, by rintro w ⟨h0, h1⟩; go_simp⟩) hHeld ?_
  refine wpAnyH_take (i := 4) (v := .pointer (some ⟨W.heap.size, 6, none⟩)) rfl (by kernel_rfl) (by kernel_rfl) (by kernel_rfl) (fun _ _ _ h => h) (Or.inl ⟨by rfl, by rintro w ⟨h0, h1⟩; go_simp⟩) hHeld ?_
  refine wpAnyH_take (i := 5) (v := .int .i64 16) rfl (by kernel_rfl) (by kernel_rfl) (by kernel_rfl) (fun _ _ _ h => h) (Or.inl ⟨by rfl, by rintro w ⟨h0, h1⟩; go_simp⟩) hHeld ?_
  refine wpAnyH_take (i := 6) (v := .int .u8 25) rfl (by kernel_rfl) (by kernel_rfl) (by kernel_rfl) (fun _ _ _ h => h) (Or.inl ⟨by rfl, by rintro w ⟨h0, h1⟩; have hl := HLk.out w h1; go_simp⟩) hHeld ?_
  refine wpAnyH_take (i := 7) (v := .int .u8 249) rfl (by kernel_rfl) (by kernel_rfl) (by kernel_rfl) (fun _ _ _ h => h) (Or.inl ⟨by rfl, by rintro w ⟨h0, h1⟩; go_simp⟩) hHeld ?_
  refine wpAnyH_ready (rs := [8]) (by kernel_rfl) (by simp) ?_
  refine AllReadyH.cons rfl (fun K hK => ?_) AllReadyH.nil
  go_simp
  have hq2 : (V1.alloc (.cells #[.int .u8 249] 5)).cell? ⟨W.heap.size, 6, none⟩ = some (.int .i64 16) := (HXV.out.alloc _).c 6 rfl
  have hm2 : (V1.alloc (.cells #[.int .u8 249] 5)).heap[W.heap.size + 1]? = some (.map (floN 3) 3) := (Below.heap_alloc _ _ _ (show W.heap.size + 1 < V1.heap.size by have := HSV.out; omega)).trans HMV.out
  refine hK.out _ _ ⟨hq2, hm2⟩ (fun hHeld => ?_)
  clear hK K hq2 hm2
  refine wpAnyH_ready (rs := [9]) (by kernel_rfl) (by simp) ?_
  refine AllReadyH.cons rfl (fun K hK => ?_) AllReadyH.nil
  go_simp
  refine (HPut.out _ _ (Bx.new _ _ _) (by have := HSV.out; omega) (HW1.out.alloc _)).mono ?_
  rintro o w2 ⟨rfl, h2, hk2⟩
  have H2 := Lib.hid h2
  have HKa : Hid (Ok w0 b W1 w2) := Lib.hid (HV1.out.trans (((Ok.refl (b := b)).alloc HW1.out.base _).trans hk2))
  have HX2 : Hid (Bx w2 W.heap.size #[.int .i64 kd, .bool bb, .bool neg, .string dig, .int .i64 exp, .int .u64 (u : Int), .int .i64 16, .string s, .slice A q c] 28) := Lib.hid (HKa.out.bx HX.out hne (by decide))
  have hm2 : w2.heap[W.heap.size + 1]? = some (.map (floN 3) 3) := HKa.out.obj HMp.out (by omega) (fun c fz e => by cases e)
  clear h2 hk2
  refine hK.out _ _ ⟨HX2.out.c 6 rfl, hm2⟩ (fun hHeld => ?_)
  clear hK K
  refine wpAnyH_done (by kernel_rfl) ?_ _
  clear hHeld hm2
  have r3 := HX2.out.c 5 rfl
  have r4 := HX2.out.c 6 rfl
  go_wp2_with fail
  refine wp_region_held_drew (S := fun w' => w'.cell? ⟨W.heap.size, 5, none⟩ = some (.int .u64 (u : Int)) ∧ w'.cell? ⟨W.heap.size, 6, none⟩ = some (.int .i64 16)) hmxH ⟨r3, r4⟩ ?_
  clear r3 r4
  intro hHeld
  refine wpAnyH_take (i := 0) (v := .pointer (some ⟨b, 0, none⟩)) rfl (by kernel_rfl) (by kernel_rfl) (by kernel_rfl) (fun _ _ _ h => h) (Or.inl ⟨by rfl, by rintro w ⟨h0, h1⟩; go_simp⟩) hHeld ?_
  refine wpAnyH_take (i := 1) (v := .pointer (some ⟨b, 0, none⟩)) rfl (by kernel_rfl) (by kernel_rfl) (by kernel_rfl) (fun _ _ _ h => h) (Or.inl ⟨by rfl, by rintro w ⟨h0, h1⟩; go_simp⟩) hHeld ?_
  refine wpAnyH_take (i := 2) (v := .pointer (some ⟨b, 0, none⟩)) rfl (by kernel_rfl) (by kernel_rfl) (by kernel_rfl) (fun _ _ _ h => h) (Or.inl ⟨by rfl, by rintro w ⟨h0, h1⟩; go_simp⟩) hHeld ?_
  refine wpAnyH_take (i := 3) (v := .pointer (some ⟨W.heap.size, 5, none⟩)) rfl (by kernel_rfl) (by kernel_rfl) (by kernel_rfl) (fun _ _ _ h => h) (Or.inl ⟨by rfl, by rintro w ⟨h0, h1⟩; go_simp⟩) hHeld ?_
  refine wpAnyH_take (i := 4) (v := .int .u64 (u : Int)) rfl (by kernel_rfl) (by kernel_rfl) (by kernel_rfl) (fun _ _ _ h => h) (Or.inl ⟨by rfl, by rintro w ⟨h0, h1⟩; go_simp⟩) hHeld ?_
  refine wpAnyH_take (i := 5) (v := .pointer (some ⟨W.heap.size, 6, none⟩)) rfl (by kernel_rfl) (by kernel_rfl) (by kernel_rfl) (fun _ _ _ h => h) (Or.inl ⟨by rfl, by rintro w ⟨h0, h1⟩; go_simp⟩) hHeld ?_
  refine wpAnyH_take (i := 6) (v := .int .i64 16) rfl (by kernel_rfl) (by kernel_rfl) (by kernel_rfl) (fun _ _ _ h => h) (Or.inl ⟨by rfl, by rintro w ⟨h0, h1⟩; go_simp⟩) hHeld ?_
  refine wpAnyH_ready (rs := [7]) (by kernel_rfl) (by simp) ?_
  refine AllReadyH.cons rfl (fun K hK => ?_) AllReadyH.nil
  go_simp
  refine (HBits.out _ _ H2.out.drew (by rw [ByteArray.size_append, show (ByteArray.mk #[UInt8.ofNat (32 * 7 + 25)]).size = 1 from rfl]; omega)).mono ?_
  rintro o w3 ⟨rfl, h3, hk3⟩
  have H3 := Lib.hid h3
  have HK3 : Hid (Ok w0 b W w3) := Lib.hid (HK1.out.trans (HKa.out.trans ((Ok.refl (b := b)).drew.trans hk3)))
  have HX3 : Hid (Bx w3 W.heap.size #[.int .i64 kd, .bool bb, .bool neg, .string dig, .int .i64 exp, .int .u64 (u : Int), .int .i64 16, .string s, .slice A q c] 28) := Lib.hid (hk3.bx (show Bx w2.drew W.heap.size #[.int .i64 kd, .bool bb, .bool neg, .string dig, .int .i64 exp, .int .u64 (u : Int), .int .i64 16, .string s, .slice A q c] 28 from HX2.out) hne (by decide))
  clear h3 hk3
  refine hK.out _ _ ⟨HX3.out.c 5 rfl, HX3.out.c 6 rfl⟩ (fun hHeld => ?_)
  clear hK K
  refine wpAnyH_done (by kernel_rfl) ?_ _
  clear hHeld
  go_wp2
  go_end0
  exact ⟨rfl, H3.out, HK3.out⟩

set_option maxRecDepth 100000 in
set_option maxHeartbeats 1000000 in
theorem flo32_calls (kd : Int) (bb neg : Bool) (dig : ByteArray) (exp : Int) (u : Nat) (s : ByteArray) (A : Option Addr) (q c : Nat) (h : Wk w0 b M t W) (hlen : t.size ≤ 100000000000) :
    Calls Tryz.prog 110 #[.pointer (some ⟨b, 0, none⟩), .agg #[.int .i64 kd, .bool bb, .bool neg, .string dig, .int .i64 exp, .int .u64 (u : Int), .int .i64 32, .string s, .slice A q c]] W (PutC w0 b M (t ++ ⟨#[UInt8.ofNat (32 * 7 + 26)]⟩ ++ bitB 4 u) W) := by
  have hmm := @run_makeMap Tryz.prog
  have hne : W.heap.size ≠ b := by have := h.lt; omega
  have hXs : (W.alloc (.cells #[.int .i64 kd, .bool bb, .bool neg, .string dig, .int .i64 exp, .int .u64 (u : Int), .int .i64 32, .string s, .slice A q c] 28)).heap.size = W.heap.size + 1 := by simp
  have u0 : (Instr.mapUpdate 216 (.map (some (W.heap.size + 1))) (.int .i64 16) (.int .u8 25)).run Tryz.prog ((W.alloc (.cells #[.int .i64 kd, .bool bb, .bool neg, .string dig, .int .i64 exp, .int .u64 (u : Int), .int .i64 32, .string s, .slice A q c] 28)).alloc (.map #[] 0)) = .ok () ((W.alloc (.cells #[.int .i64 kd, .bool bb, .bool neg, .string dig, .int .i64 exp, .int .u64 (u : Int), .int .i64 32, .string s, .slice A q c] 28)).alloc (.map (floN 1) 1)) := by
    have := updF (w := (W.alloc (.cells #[.int .i64 kd, .bool bb, .bool neg, .string dig, .int .i64 exp, .int .u64 (u : Int), .int .i64 32, .string s, .slice A q c] 28))) (es := #[]) (clock := 0) (a := 16) (v := .int .u8 25) (by rfl)
    rw [hXs] at this
    exact this
  have u1 : (Instr.mapUpdate 216 (.map (some (W.heap.size + 1))) (.int .i64 32) (.int .u8 26)).run Tryz.prog ((W.alloc (.cells #[.int .i64 kd, .bool bb, .bool neg, .string dig, .int .i64 exp, .int .u64 (u : Int), .int .i64 32, .string s, .slice A q c] 28)).alloc (.map (floN 1) 1)) = .ok () ((W.alloc (.cells #[.int .i64 kd, .bool bb, .bool neg, .string dig, .int .i64 exp, .int .u64 (u : Int), .int .i64 32, .string s, .slice A q c] 28)).alloc (.map (floN 2) 2)) := by
    have := updF (w := (W.alloc (.cells #[.int .i64 kd, .bool bb, .bool neg, .string dig, .int .i64 exp, .int .u64 (u : Int), .int .i64 32, .string s, .slice A q c] 28))) (es := floN 1) (clock := 1) (a := 32) (v := .int .u8 26) (by rfl)
    rw [hXs] at this
    exact this
  have u2 : (Instr.mapUpdate 216 (.map (some (W.heap.size + 1))) (.int .i64 64) (.int .u8 27)).run Tryz.prog ((W.alloc (.cells #[.int .i64 kd, .bool bb, .bool neg, .string dig, .int .i64 exp, .int .u64 (u : Int), .int .i64 32, .string s, .slice A q c] 28)).alloc (.map (floN 2) 2)) = .ok () ((W.alloc (.cells #[.int .i64 kd, .bool bb, .bool neg, .string dig, .int .i64 exp, .int .u64 (u : Int), .int .i64 32, .string s, .slice A q c] 28)).alloc (.map (floN 3) 3)) := by
    have := updF (w := (W.alloc (.cells #[.int .i64 kd, .bool bb, .bool neg, .string dig, .int .i64 exp, .int .u64 (u : Int), .int .i64 32, .string s, .slice A q c] 28))) (es := floN 2) (clock := 2) (a := 64) (v := .int .u8 27) (by rfl)
    rw [hXs] at this
    exact this
  obtain ⟨W1, hW1⟩ : ∃ W1, W1 = (W.alloc (.cells #[.int .i64 kd, .bool bb, .bool neg, .string dig, .int .i64 exp, .int .u64 (u : Int), .int .i64 32, .string s, .slice A q c] 28)).alloc (.map (floN 3) 3) := ⟨_, rfl⟩
  have H1 : Hid (Wk w0 b M t W1) := Lib.hid (by rw [hW1]; exact (h.alloc _).alloc _)
  have HK1 : Hid (Ok w0 b W W1) := Lib.hid (by rw [hW1]; exact (Ok.refl.alloc h.base _).alloc (h.alloc _).base _)
  have HX : Hid (Bx W1 W.heap.size #[.int .i64 kd, .bool bb, .bool neg, .string dig, .int .i64 exp, .int .u64 (u : Int), .int .i64 32, .string s, .slice A q c] 28) := Lib.hid (by rw [hW1]; exact (Bx.new W _ _).alloc _)
  have HMp : Hid (W1.heap[W.heap.size + 1]? = some (.map (floN 3) 3)) := Lib.hid (by rw [hW1, ← hXs]; exact heap_alloc_new _ _)
  have hq : W1.cell? ⟨W.heap.size, 6, none⟩ = some (.int .i64 32) := HX.out.c 6 rfl
  have hs1 : W1.heap.size = W.heap.size + 2 := by rw [hW1]; simp
  have hlk : ∀ V : World, V.heap[W.heap.size + 1]? = some (.map (floN 3) 3) → (Instr.lookup 216 (.map (some (W.heap.size + 1))) (.int .i64 32) false).run Tryz.prog V = .ok (.int .u8 26) V := fun V hV => by
    have hk : MapKept.IsKey (.int .i64) (.int .i64 32) := rfl
    simp [Instr.lookup, run_underlying Tryz.underlying216, MapKept.run_getObj_map hV, MapKept.run_checkKey Tryz.underlying3 hk, MapKept.run_findKey Tryz.underlying3 (show Instr.findNow (.int .i64) (.int .i64 32) (floN 3).toList 0 = some (some (1, .int .u8 26)) from rfl), Result.andThen]
  have HLk := Lib.hid hlk
  have hmxH : Tryz.prog.follows .mixedOrders = true := by kernel_rfl
  have HBits := Lib.hid (fun V (t' : ByteArray) (hV : Wk w0 b M t' V) (ht : t'.size ≤ 900000000000) => bitsC_calls (W := V) 4 u (by decide) hV ht)
  rw [show (8 * ((4 : Nat) : Int)) = 32 by decide] at HBits
  have HPut := Lib.hid (fun V S (hS : Bx V S #[.int .u8 ((UInt8.ofNat (32 * 7 + 26)).toNat : Int)] 5) (hn : S ≠ b) (hV : Wk w0 b M t V) => putC_calls (W := V) (UInt8.ofNat (32 * 7 + 26)) S hS hn hV (by omega))
  rw [show ((UInt8.ofNat (32 * 7 + 26)).toNat : Int) = 250 by decide] at HPut
  rw [← hW1] at u2
  have hlb : b < W.heap.size := h.lt
  have hor : bits BinOp.or IntKind.u8 224 26 = 250 := by decide
  clear h hXs hlk hW1
  go_enter Tryz.func110, Tryz.ntmps110
  go_wp2_with fail
  refine wp_region_held_drew (S := fun w' => w'.cell? ⟨W.heap.size, 6, none⟩ = some (.int .i64 32) ∧ w'.heap[W.heap.size + 1]? = some (.map (floN 3) 3)) hmxH ⟨hq, HMp.out⟩ ?_
  clear hq u0 u1 u2
  obtain ⟨V1, hV1⟩ : ∃ V1, V1 = W1.drew := ⟨_, rfl⟩
  have HW1 : Hid (Wk w0 b M t V1) := Lib.hid (by rw [hV1]; exact H1.out.drew)
  have HV1 : Hid (Ok w0 b W1 V1) := Lib.hid (by rw [hV1]; exact (Ok.refl (b := b)).drew)
  have HXV : Hid (Bx V1 W.heap.size #[.int .i64 kd, .bool bb, .bool neg, .string dig, .int .i64 exp, .int .u64 (u : Int), .int .i64 32, .string s, .slice A q c] 28) := Lib.hid (by rw [hV1]; exact HX.out)
  have HMV : Hid (V1.heap[W.heap.size + 1]? = some (.map (floN 3) 3)) := Lib.hid (by rw [hV1]; exact HMp.out)
  have HSV : Hid (V1.heap.size = W.heap.size + 2) := Lib.hid (by rw [hV1]; exact hs1)
  rw [← hV1]
  clear hV1 hs1
  intro hHeld
  refine wpAnyH_take (i := 0) (v := .pointer (some ⟨b, 0, none⟩)) rfl (by kernel_rfl) (by kernel_rfl) (by kernel_rfl) (fun _ _ _ h => h) (Or.inl ⟨by rfl, by rintro w ⟨h0, h1⟩; go_simp⟩) hHeld ?_
  refine wpAnyH_take (i := 1) (v := .pointer (some ⟨b, 0, none⟩)) rfl (by kernel_rfl) (by kernel_rfl) (by kernel_rfl) (fun _ _ _ h => h) (Or.inl ⟨by rfl, by rintro w ⟨h0, h1⟩; go_simp⟩) hHeld ?_
  refine wpAnyH_take (i := 2) (v := .pointer (some ⟨b, 0, none⟩)) rfl (by kernel_rfl) (by kernel_rfl) (by kernel_rfl) (fun _ _ _ h => h) (Or.inl ⟨by rfl, by rintro w ⟨h0, h1⟩; go_simp⟩) hHeld ?_
  refine wpAnyH_take (i := 3) (v := .map (some (W.heap.size + 1))) rfl (by kernel_rfl) (by kernel_rfl) (by kernel_rfl) (fun _ _ _ h => h) (Or.inl ⟨by rfl, by rintro w ⟨h0, h1⟩; go_simp⟩) hHeld ?_
  refine wpAnyH_take (i := 4) (v := .pointer (some ⟨W.heap.size, 6, none⟩)) rfl (by kernel_rfl) (by kernel_rfl) (by kernel_rfl) (fun _ _ _ h => h) (Or.inl ⟨by rfl, by rintro w ⟨h0, h1⟩; go_simp⟩) hHeld ?_
  refine wpAnyH_take (i := 5) (v := .int .i64 32) rfl (by kernel_rfl) (by kernel_rfl) (by kernel_rfl) (fun _ _ _ h => h) (Or.inl ⟨by rfl, by rintro w ⟨h0, h1⟩; go_simp⟩) hHeld ?_
  refine wpAnyH_take (i := 6) (v := .int .u8 26) rfl (by kernel_rfl) (by kernel_rfl) (by kernel_rfl) (fun _ _ _ h => h) (Or.inl ⟨by rfl, by rintro w ⟨h0, h1⟩; have hl := HLk.out w h1; go_simp⟩) hHeld ?_
  refine wpAnyH_take (i := 7) (v := .int .u8 250) rfl (by kernel_rfl) (by kernel_rfl) (by kernel_rfl) (fun _ _ _ h => h) (Or.inl ⟨by rfl, by rintro w ⟨h0, h1⟩; go_simp⟩) hHeld ?_
  refine wpAnyH_ready (rs := [8]) (by kernel_rfl) (by simp) ?_
  refine AllReadyH.cons rfl (fun K hK => ?_) AllReadyH.nil
  go_simp
  have hq2 : (V1.alloc (.cells #[.int .u8 250] 5)).cell? ⟨W.heap.size, 6, none⟩ = some (.int .i64 32) := (HXV.out.alloc _).c 6 rfl
  have hm2 : (V1.alloc (.cells #[.int .u8 250] 5)).heap[W.heap.size + 1]? = some (.map (floN 3) 3) := (Below.heap_alloc _ _ _ (show W.heap.size + 1 < V1.heap.size by have := HSV.out; omega)).trans HMV.out
  refine hK.out _ _ ⟨hq2, hm2⟩ (fun hHeld => ?_)
  clear hK K hq2 hm2
  refine wpAnyH_ready (rs := [9]) (by kernel_rfl) (by simp) ?_
  refine AllReadyH.cons rfl (fun K hK => ?_) AllReadyH.nil
  go_simp
  refine (HPut.out _ _ (Bx.new _ _ _) (by have := HSV.out; omega) (HW1.out.alloc _)).mono ?_
  rintro o w2 ⟨rfl, h2, hk2⟩
  have H2 := Lib.hid h2
  have HKa : Hid (Ok w0 b W1 w2) := Lib.hid (HV1.out.trans (((Ok.refl (b := b)).alloc HW1.out.base _).trans hk2))
  have HX2 : Hid (Bx w2 W.heap.size #[.int .i64 kd, .bool bb, .bool neg, .string dig, .int .i64 exp, .int .u64 (u : Int), .int .i64 32, .string s, .slice A q c] 28) := Lib.hid (HKa.out.bx HX.out hne (by decide))
  have hm2 : w2.heap[W.heap.size + 1]? = some (.map (floN 3) 3) := HKa.out.obj HMp.out (by omega) (fun c fz e => by cases e)
  clear h2 hk2
  refine hK.out _ _ ⟨HX2.out.c 6 rfl, hm2⟩ (fun hHeld => ?_)
  clear hK K
  refine wpAnyH_done (by kernel_rfl) ?_ _
  clear hHeld hm2
  have r3 := HX2.out.c 5 rfl
  have r4 := HX2.out.c 6 rfl
  go_wp2_with fail
  refine wp_region_held_drew (S := fun w' => w'.cell? ⟨W.heap.size, 5, none⟩ = some (.int .u64 (u : Int)) ∧ w'.cell? ⟨W.heap.size, 6, none⟩ = some (.int .i64 32)) hmxH ⟨r3, r4⟩ ?_
  clear r3 r4
  intro hHeld
  refine wpAnyH_take (i := 0) (v := .pointer (some ⟨b, 0, none⟩)) rfl (by kernel_rfl) (by kernel_rfl) (by kernel_rfl) (fun _ _ _ h => h) (Or.inl ⟨by rfl, by rintro w ⟨h0, h1⟩; go_simp⟩) hHeld ?_
  refine wpAnyH_take (i := 1) (v := .pointer (some ⟨b, 0, none⟩)) rfl (by kernel_rfl) (by kernel_rfl) (by kernel_rfl) (fun _ _ _ h => h) (Or.inl ⟨by rfl, by rintro w ⟨h0, h1⟩; go_simp⟩) hHeld ?_
  refine wpAnyH_take (i := 2) (v := .pointer (some ⟨b, 0, none⟩)) rfl (by kernel_rfl) (by kernel_rfl) (by kernel_rfl) (fun _ _ _ h => h) (Or.inl ⟨by rfl, by rintro w ⟨h0, h1⟩; go_simp⟩) hHeld ?_
  refine wpAnyH_take (i := 3) (v := .pointer (some ⟨W.heap.size, 5, none⟩)) rfl (by kernel_rfl) (by kernel_rfl) (by kernel_rfl) (fun _ _ _ h => h) (Or.inl ⟨by rfl, by rintro w ⟨h0, h1⟩; go_simp⟩) hHeld ?_
  refine wpAnyH_take (i := 4) (v := .int .u64 (u : Int)) rfl (by kernel_rfl) (by kernel_rfl) (by kernel_rfl) (fun _ _ _ h => h) (Or.inl ⟨by rfl, by rintro w ⟨h0, h1⟩; go_simp⟩) hHeld ?_
  refine wpAnyH_take (i := 5) (v := .pointer (some ⟨W.heap.size, 6, none⟩)) rfl (by kernel_rfl) (by kernel_rfl) (by kernel_rfl) (fun _ _ _ h => h) (Or.inl ⟨by rfl, by rintro w ⟨h0, h1⟩; go_simp⟩) hHeld ?_
  refine wpAnyH_take (i := 6) (v := .int .i64 32) rfl (by kernel_rfl) (by kernel_rfl) (by kernel_rfl) (fun _ _ _ h => h) (Or.inl ⟨by rfl, by rintro w ⟨h0, h1⟩; go_simp⟩) hHeld ?_
  refine wpAnyH_ready (rs := [7]) (by kernel_rfl) (by simp) ?_
  refine AllReadyH.cons rfl (fun K hK => ?_) AllReadyH.nil
  go_simp
  refine (HBits.out _ _ H2.out.drew (by rw [ByteArray.size_append, show (ByteArray.mk #[UInt8.ofNat (32 * 7 + 26)]).size = 1 from rfl]; omega)).mono ?_
  rintro o w3 ⟨rfl, h3, hk3⟩
  have H3 := Lib.hid h3
  have HK3 : Hid (Ok w0 b W w3) := Lib.hid (HK1.out.trans (HKa.out.trans ((Ok.refl (b := b)).drew.trans hk3)))
  have HX3 : Hid (Bx w3 W.heap.size #[.int .i64 kd, .bool bb, .bool neg, .string dig, .int .i64 exp, .int .u64 (u : Int), .int .i64 32, .string s, .slice A q c] 28) := Lib.hid (hk3.bx (show Bx w2.drew W.heap.size #[.int .i64 kd, .bool bb, .bool neg, .string dig, .int .i64 exp, .int .u64 (u : Int), .int .i64 32, .string s, .slice A q c] 28 from HX2.out) hne (by decide))
  clear h3 hk3
  refine hK.out _ _ ⟨HX3.out.c 5 rfl, HX3.out.c 6 rfl⟩ (fun hHeld => ?_)
  clear hK K
  refine wpAnyH_done (by kernel_rfl) ?_ _
  clear hHeld
  go_wp2
  go_end0
  exact ⟨rfl, H3.out, HK3.out⟩

set_option maxRecDepth 100000 in
set_option maxHeartbeats 1000000 in
theorem flo64_calls (kd : Int) (bb neg : Bool) (dig : ByteArray) (exp : Int) (u : Nat) (s : ByteArray) (A : Option Addr) (q c : Nat) (h : Wk w0 b M t W) (hlen : t.size ≤ 100000000000) :
    Calls Tryz.prog 110 #[.pointer (some ⟨b, 0, none⟩), .agg #[.int .i64 kd, .bool bb, .bool neg, .string dig, .int .i64 exp, .int .u64 (u : Int), .int .i64 64, .string s, .slice A q c]] W (PutC w0 b M (t ++ ⟨#[UInt8.ofNat (32 * 7 + 27)]⟩ ++ bitB 8 u) W) := by
  have hmm := @run_makeMap Tryz.prog
  have hne : W.heap.size ≠ b := by have := h.lt; omega
  have hXs : (W.alloc (.cells #[.int .i64 kd, .bool bb, .bool neg, .string dig, .int .i64 exp, .int .u64 (u : Int), .int .i64 64, .string s, .slice A q c] 28)).heap.size = W.heap.size + 1 := by simp
  have u0 : (Instr.mapUpdate 216 (.map (some (W.heap.size + 1))) (.int .i64 16) (.int .u8 25)).run Tryz.prog ((W.alloc (.cells #[.int .i64 kd, .bool bb, .bool neg, .string dig, .int .i64 exp, .int .u64 (u : Int), .int .i64 64, .string s, .slice A q c] 28)).alloc (.map #[] 0)) = .ok () ((W.alloc (.cells #[.int .i64 kd, .bool bb, .bool neg, .string dig, .int .i64 exp, .int .u64 (u : Int), .int .i64 64, .string s, .slice A q c] 28)).alloc (.map (floN 1) 1)) := by
    have := updF (w := (W.alloc (.cells #[.int .i64 kd, .bool bb, .bool neg, .string dig, .int .i64 exp, .int .u64 (u : Int), .int .i64 64, .string s, .slice A q c] 28))) (es := #[]) (clock := 0) (a := 16) (v := .int .u8 25) (by rfl)
    rw [hXs] at this
    exact this
  have u1 : (Instr.mapUpdate 216 (.map (some (W.heap.size + 1))) (.int .i64 32) (.int .u8 26)).run Tryz.prog ((W.alloc (.cells #[.int .i64 kd, .bool bb, .bool neg, .string dig, .int .i64 exp, .int .u64 (u : Int), .int .i64 64, .string s, .slice A q c] 28)).alloc (.map (floN 1) 1)) = .ok () ((W.alloc (.cells #[.int .i64 kd, .bool bb, .bool neg, .string dig, .int .i64 exp, .int .u64 (u : Int), .int .i64 64, .string s, .slice A q c] 28)).alloc (.map (floN 2) 2)) := by
    have := updF (w := (W.alloc (.cells #[.int .i64 kd, .bool bb, .bool neg, .string dig, .int .i64 exp, .int .u64 (u : Int), .int .i64 64, .string s, .slice A q c] 28))) (es := floN 1) (clock := 1) (a := 32) (v := .int .u8 26) (by rfl)
    rw [hXs] at this
    exact this
  have u2 : (Instr.mapUpdate 216 (.map (some (W.heap.size + 1))) (.int .i64 64) (.int .u8 27)).run Tryz.prog ((W.alloc (.cells #[.int .i64 kd, .bool bb, .bool neg, .string dig, .int .i64 exp, .int .u64 (u : Int), .int .i64 64, .string s, .slice A q c] 28)).alloc (.map (floN 2) 2)) = .ok () ((W.alloc (.cells #[.int .i64 kd, .bool bb, .bool neg, .string dig, .int .i64 exp, .int .u64 (u : Int), .int .i64 64, .string s, .slice A q c] 28)).alloc (.map (floN 3) 3)) := by
    have := updF (w := (W.alloc (.cells #[.int .i64 kd, .bool bb, .bool neg, .string dig, .int .i64 exp, .int .u64 (u : Int), .int .i64 64, .string s, .slice A q c] 28))) (es := floN 2) (clock := 2) (a := 64) (v := .int .u8 27) (by rfl)
    rw [hXs] at this
    exact this
  obtain ⟨W1, hW1⟩ : ∃ W1, W1 = (W.alloc (.cells #[.int .i64 kd, .bool bb, .bool neg, .string dig, .int .i64 exp, .int .u64 (u : Int), .int .i64 64, .string s, .slice A q c] 28)).alloc (.map (floN 3) 3) := ⟨_, rfl⟩
  have H1 : Hid (Wk w0 b M t W1) := Lib.hid (by rw [hW1]; exact (h.alloc _).alloc _)
  have HK1 : Hid (Ok w0 b W W1) := Lib.hid (by rw [hW1]; exact (Ok.refl.alloc h.base _).alloc (h.alloc _).base _)
  have HX : Hid (Bx W1 W.heap.size #[.int .i64 kd, .bool bb, .bool neg, .string dig, .int .i64 exp, .int .u64 (u : Int), .int .i64 64, .string s, .slice A q c] 28) := Lib.hid (by rw [hW1]; exact (Bx.new W _ _).alloc _)
  have HMp : Hid (W1.heap[W.heap.size + 1]? = some (.map (floN 3) 3)) := Lib.hid (by rw [hW1, ← hXs]; exact heap_alloc_new _ _)
  have hq : W1.cell? ⟨W.heap.size, 6, none⟩ = some (.int .i64 64) := HX.out.c 6 rfl
  have hs1 : W1.heap.size = W.heap.size + 2 := by rw [hW1]; simp
  have hlk : ∀ V : World, V.heap[W.heap.size + 1]? = some (.map (floN 3) 3) → (Instr.lookup 216 (.map (some (W.heap.size + 1))) (.int .i64 64) false).run Tryz.prog V = .ok (.int .u8 27) V := fun V hV => by
    have hk : MapKept.IsKey (.int .i64) (.int .i64 64) := rfl
    simp [Instr.lookup, run_underlying Tryz.underlying216, MapKept.run_getObj_map hV, MapKept.run_checkKey Tryz.underlying3 hk, MapKept.run_findKey Tryz.underlying3 (show Instr.findNow (.int .i64) (.int .i64 64) (floN 3).toList 0 = some (some (2, .int .u8 27)) from rfl), Result.andThen]
  have HLk := Lib.hid hlk
  have hmxH : Tryz.prog.follows .mixedOrders = true := by kernel_rfl
  have HBits := Lib.hid (fun V (t' : ByteArray) (hV : Wk w0 b M t' V) (ht : t'.size ≤ 900000000000) => bitsC_calls (W := V) 8 u (by decide) hV ht)
  rw [show (8 * ((8 : Nat) : Int)) = 64 by decide] at HBits
  have HPut := Lib.hid (fun V S (hS : Bx V S #[.int .u8 ((UInt8.ofNat (32 * 7 + 27)).toNat : Int)] 5) (hn : S ≠ b) (hV : Wk w0 b M t V) => putC_calls (W := V) (UInt8.ofNat (32 * 7 + 27)) S hS hn hV (by omega))
  rw [show ((UInt8.ofNat (32 * 7 + 27)).toNat : Int) = 251 by decide] at HPut
  rw [← hW1] at u2
  have hlb : b < W.heap.size := h.lt
  have hor : bits BinOp.or IntKind.u8 224 27 = 251 := by decide
  clear h hXs hlk hW1
  go_enter Tryz.func110, Tryz.ntmps110
  go_wp2_with fail
  refine wp_region_held_drew (S := fun w' => w'.cell? ⟨W.heap.size, 6, none⟩ = some (.int .i64 64) ∧ w'.heap[W.heap.size + 1]? = some (.map (floN 3) 3)) hmxH ⟨hq, HMp.out⟩ ?_
  clear hq u0 u1 u2
  obtain ⟨V1, hV1⟩ : ∃ V1, V1 = W1.drew := ⟨_, rfl⟩
  have HW1 : Hid (Wk w0 b M t V1) := Lib.hid (by rw [hV1]; exact H1.out.drew)
  have HV1 : Hid (Ok w0 b W1 V1) := Lib.hid (by rw [hV1]; exact (Ok.refl (b := b)).drew)
  have HXV : Hid (Bx V1 W.heap.size #[.int .i64 kd, .bool bb, .bool neg, .string dig, .int .i64 exp, .int .u64 (u : Int), .int .i64 64, .string s, .slice A q c] 28) := Lib.hid (by rw [hV1]; exact HX.out)
  have HMV : Hid (V1.heap[W.heap.size + 1]? = some (.map (floN 3) 3)) := Lib.hid (by rw [hV1]; exact HMp.out)
  have HSV : Hid (V1.heap.size = W.heap.size + 2) := Lib.hid (by rw [hV1]; exact hs1)
  rw [← hV1]
  clear hV1 hs1
  intro hHeld
  refine wpAnyH_take (i := 0) (v := .pointer (some ⟨b, 0, none⟩)) rfl (by kernel_rfl) (by kernel_rfl) (by kernel_rfl) (fun _ _ _ h => h) (Or.inl ⟨by rfl, by rintro w ⟨h0, h1⟩; go_simp⟩) hHeld ?_
  refine wpAnyH_take (i := 1) (v := .pointer (some ⟨b, 0, none⟩)) rfl (by kernel_rfl) (by kernel_rfl) (by kernel_rfl) (fun _ _ _ h => h) (Or.inl ⟨by rfl, by rintro w ⟨h0, h1⟩; go_simp⟩) hHeld ?_
  refine wpAnyH_take (i := 2) (v := .pointer (some ⟨b, 0, none⟩)) rfl (by kernel_rfl) (by kernel_rfl) (by kernel_rfl) (fun _ _ _ h => h) (Or.inl ⟨by rfl, by rintro w ⟨h0, h1⟩; go_simp⟩) hHeld ?_
  refine wpAnyH_take (i := 3) (v := .map (some (W.heap.size + 1))) rfl (by kernel_rfl) (by kernel_rfl) (by kernel_rfl) (fun _ _ _ h => h) (Or.inl ⟨by rfl, by rintro w ⟨h0, h1⟩; go_simp⟩) hHeld ?_
  refine wpAnyH_take (i := 4) (v := .pointer (some ⟨W.heap.size, 6, none⟩)) rfl (by kernel_rfl) (by kernel_rfl) (by kernel_rfl) (fun _ _ _ h => h) (Or.inl ⟨by rfl, by rintro w ⟨h0, h1⟩; go_simp⟩) hHeld ?_
  refine wpAnyH_take (i := 5) (v := .int .i64 64) rfl (by kernel_rfl) (by kernel_rfl) (by kernel_rfl) (fun _ _ _ h => h) (Or.inl ⟨by rfl, by rintro w ⟨h0, h1⟩; go_simp⟩) hHeld ?_
  refine wpAnyH_take (i := 6) (v := .int .u8 27) rfl (by kernel_rfl) (by kernel_rfl) (by kernel_rfl) (fun _ _ _ h => h) (Or.inl ⟨by rfl, by rintro w ⟨h0, h1⟩; have hl := HLk.out w h1; go_simp⟩) hHeld ?_
  refine wpAnyH_take (i := 7) (v := .int .u8 251) rfl (by kernel_rfl) (by kernel_rfl) (by kernel_rfl) (fun _ _ _ h => h) (Or.inl ⟨by rfl, by rintro w ⟨h0, h1⟩; go_simp⟩) hHeld ?_
  refine wpAnyH_ready (rs := [8]) (by kernel_rfl) (by simp) ?_
  refine AllReadyH.cons rfl (fun K hK => ?_) AllReadyH.nil
  go_simp
  have hq2 : (V1.alloc (.cells #[.int .u8 251] 5)).cell? ⟨W.heap.size, 6, none⟩ = some (.int .i64 64) := (HXV.out.alloc _).c 6 rfl
  have hm2 : (V1.alloc (.cells #[.int .u8 251] 5)).heap[W.heap.size + 1]? = some (.map (floN 3) 3) := (Below.heap_alloc _ _ _ (show W.heap.size + 1 < V1.heap.size by have := HSV.out; omega)).trans HMV.out
  refine hK.out _ _ ⟨hq2, hm2⟩ (fun hHeld => ?_)
  clear hK K hq2 hm2
  refine wpAnyH_ready (rs := [9]) (by kernel_rfl) (by simp) ?_
  refine AllReadyH.cons rfl (fun K hK => ?_) AllReadyH.nil
  go_simp
  refine (HPut.out _ _ (Bx.new _ _ _) (by have := HSV.out; omega) (HW1.out.alloc _)).mono ?_
  rintro o w2 ⟨rfl, h2, hk2⟩
  have H2 := Lib.hid h2
  have HKa : Hid (Ok w0 b W1 w2) := Lib.hid (HV1.out.trans (((Ok.refl (b := b)).alloc HW1.out.base _).trans hk2))
  have HX2 : Hid (Bx w2 W.heap.size #[.int .i64 kd, .bool bb, .bool neg, .string dig, .int .i64 exp, .int .u64 (u : Int), .int .i64 64, .string s, .slice A q c] 28) := Lib.hid (HKa.out.bx HX.out hne (by decide))
  have hm2 : w2.heap[W.heap.size + 1]? = some (.map (floN 3) 3) := HKa.out.obj HMp.out (by omega) (fun c fz e => by cases e)
  clear h2 hk2
  refine hK.out _ _ ⟨HX2.out.c 6 rfl, hm2⟩ (fun hHeld => ?_)
  clear hK K
  refine wpAnyH_done (by kernel_rfl) ?_ _
  clear hHeld hm2
  have r3 := HX2.out.c 5 rfl
  have r4 := HX2.out.c 6 rfl
  go_wp2_with fail
  refine wp_region_held_drew (S := fun w' => w'.cell? ⟨W.heap.size, 5, none⟩ = some (.int .u64 (u : Int)) ∧ w'.cell? ⟨W.heap.size, 6, none⟩ = some (.int .i64 64)) hmxH ⟨r3, r4⟩ ?_
  clear r3 r4
  intro hHeld
  refine wpAnyH_take (i := 0) (v := .pointer (some ⟨b, 0, none⟩)) rfl (by kernel_rfl) (by kernel_rfl) (by kernel_rfl) (fun _ _ _ h => h) (Or.inl ⟨by rfl, by rintro w ⟨h0, h1⟩; go_simp⟩) hHeld ?_
  refine wpAnyH_take (i := 1) (v := .pointer (some ⟨b, 0, none⟩)) rfl (by kernel_rfl) (by kernel_rfl) (by kernel_rfl) (fun _ _ _ h => h) (Or.inl ⟨by rfl, by rintro w ⟨h0, h1⟩; go_simp⟩) hHeld ?_
  refine wpAnyH_take (i := 2) (v := .pointer (some ⟨b, 0, none⟩)) rfl (by kernel_rfl) (by kernel_rfl) (by kernel_rfl) (fun _ _ _ h => h) (Or.inl ⟨by rfl, by rintro w ⟨h0, h1⟩; go_simp⟩) hHeld ?_
  refine wpAnyH_take (i := 3) (v := .pointer (some ⟨W.heap.size, 5, none⟩)) rfl (by kernel_rfl) (by kernel_rfl) (by kernel_rfl) (fun _ _ _ h => h) (Or.inl ⟨by rfl, by rintro w ⟨h0, h1⟩; go_simp⟩) hHeld ?_
  refine wpAnyH_take (i := 4) (v := .int .u64 (u : Int)) rfl (by kernel_rfl) (by kernel_rfl) (by kernel_rfl) (fun _ _ _ h => h) (Or.inl ⟨by rfl, by rintro w ⟨h0, h1⟩; go_simp⟩) hHeld ?_
  refine wpAnyH_take (i := 5) (v := .pointer (some ⟨W.heap.size, 6, none⟩)) rfl (by kernel_rfl) (by kernel_rfl) (by kernel_rfl) (fun _ _ _ h => h) (Or.inl ⟨by rfl, by rintro w ⟨h0, h1⟩; go_simp⟩) hHeld ?_
  refine wpAnyH_take (i := 6) (v := .int .i64 64) rfl (by kernel_rfl) (by kernel_rfl) (by kernel_rfl) (fun _ _ _ h => h) (Or.inl ⟨by rfl, by rintro w ⟨h0, h1⟩; go_simp⟩) hHeld ?_
  refine wpAnyH_ready (rs := [7]) (by kernel_rfl) (by simp) ?_
  refine AllReadyH.cons rfl (fun K hK => ?_) AllReadyH.nil
  go_simp
  refine (HBits.out _ _ H2.out.drew (by rw [ByteArray.size_append, show (ByteArray.mk #[UInt8.ofNat (32 * 7 + 27)]).size = 1 from rfl]; omega)).mono ?_
  rintro o w3 ⟨rfl, h3, hk3⟩
  have H3 := Lib.hid h3
  have HK3 : Hid (Ok w0 b W w3) := Lib.hid (HK1.out.trans (HKa.out.trans ((Ok.refl (b := b)).drew.trans hk3)))
  have HX3 : Hid (Bx w3 W.heap.size #[.int .i64 kd, .bool bb, .bool neg, .string dig, .int .i64 exp, .int .u64 (u : Int), .int .i64 64, .string s, .slice A q c] 28) := Lib.hid (hk3.bx (show Bx w2.drew W.heap.size #[.int .i64 kd, .bool bb, .bool neg, .string dig, .int .i64 exp, .int .u64 (u : Int), .int .i64 64, .string s, .slice A q c] 28 from HX2.out) hne (by decide))
  clear h3 hk3
  refine hK.out _ _ ⟨HX3.out.c 5 rfl, HX3.out.c 6 rfl⟩ (fun hHeld => ?_)
  clear hK K
  refine wpAnyH_done (by kernel_rfl) ?_ _
  clear hHeld
  go_wp2
  go_end0
  exact ⟨rfl, H3.out, HK3.out⟩

end
set_option maxRecDepth 100000 in
set_option maxHeartbeats 1000000 in
theorem newC_calls (W : World) : Calls Tryz.prog 70 #[] W fun o w' => ∃ b M, o = .returned (.pointer (some ⟨b, 0, none⟩)) ∧ Wk W b M ⟨#[]⟩ w' := by
  have hmm := @run_makeMap Tryz.prog
  have hmf : ∀ (fn : Fn) (first cap : Array Value) (w : World), (Instr.makeFunc fn first cap).run Tryz.prog w = .ok (.func fn first cap) w := fun _ _ _ _ => rfl
  have hXs : (W.alloc (.cells #[.pointer none, .slice none 0 0, .map none] 137)).heap.size = W.heap.size + 1 := by simp
  have u0 : (Instr.mapUpdate 135 (.map (some (W.heap.size + 1))) (.int .i64 1) (.func (.func 107) #[.pointer (some ⟨W.heap.size, 0, none⟩)] #[])).run Tryz.prog ((W.alloc (.cells #[.pointer none, .slice none 0 0, .map none] 137)).alloc (.map #[] 0)) = .ok () ((W.alloc (.cells #[.pointer none, .slice none 0 0, .map none] 137)).alloc (.map (partsC W.heap.size 1) 1)) := by
    have := updP (w := (W.alloc (.cells #[.pointer none, .slice none 0 0, .map none] 137))) (es := #[]) (clock := 0) (a := 1) (v := .func (.func 107) #[.pointer (some ⟨W.heap.size, 0, none⟩)] #[]) (by rfl)
    rw [hXs] at this
    exact this
  have u1 : (Instr.mapUpdate 135 (.map (some (W.heap.size + 1))) (.int .i64 2) (.func (.func 108) #[.pointer (some ⟨W.heap.size, 0, none⟩)] #[])).run Tryz.prog ((W.alloc (.cells #[.pointer none, .slice none 0 0, .map none] 137)).alloc (.map (partsC W.heap.size 1) 1)) = .ok () ((W.alloc (.cells #[.pointer none, .slice none 0 0, .map none] 137)).alloc (.map (partsC W.heap.size 2) 2)) := by
    have := updP (w := (W.alloc (.cells #[.pointer none, .slice none 0 0, .map none] 137))) (es := partsC W.heap.size 1) (clock := 1) (a := 2) (v := .func (.func 108) #[.pointer (some ⟨W.heap.size, 0, none⟩)] #[]) (by rfl)
    rw [hXs] at this
    exact this
  have u2 : (Instr.mapUpdate 135 (.map (some (W.heap.size + 1))) (.int .i64 3) (.func (.func 109) #[.pointer (some ⟨W.heap.size, 0, none⟩)] #[])).run Tryz.prog ((W.alloc (.cells #[.pointer none, .slice none 0 0, .map none] 137)).alloc (.map (partsC W.heap.size 2) 2)) = .ok () ((W.alloc (.cells #[.pointer none, .slice none 0 0, .map none] 137)).alloc (.map (partsC W.heap.size 3) 3)) := by
    have := updP (w := (W.alloc (.cells #[.pointer none, .slice none 0 0, .map none] 137))) (es := partsC W.heap.size 2) (clock := 2) (a := 3) (v := .func (.func 109) #[.pointer (some ⟨W.heap.size, 0, none⟩)] #[]) (by rfl)
    rw [hXs] at this
    exact this
  have u3 : (Instr.mapUpdate 135 (.map (some (W.heap.size + 1))) (.int .i64 4) (.func (.func 110) #[.pointer (some ⟨W.heap.size, 0, none⟩)] #[])).run Tryz.prog ((W.alloc (.cells #[.pointer none, .slice none 0 0, .map none] 137)).alloc (.map (partsC W.heap.size 3) 3)) = .ok () ((W.alloc (.cells #[.pointer none, .slice none 0 0, .map none] 137)).alloc (.map (partsC W.heap.size 4) 4)) := by
    have := updP (w := (W.alloc (.cells #[.pointer none, .slice none 0 0, .map none] 137))) (es := partsC W.heap.size 3) (clock := 3) (a := 4) (v := .func (.func 110) #[.pointer (some ⟨W.heap.size, 0, none⟩)] #[]) (by rfl)
    rw [hXs] at this
    exact this
  have u4 : (Instr.mapUpdate 135 (.map (some (W.heap.size + 1))) (.int .i64 5) (.func (.func 111) #[.pointer (some ⟨W.heap.size, 0, none⟩)] #[])).run Tryz.prog ((W.alloc (.cells #[.pointer none, .slice none 0 0, .map none] 137)).alloc (.map (partsC W.heap.size 4) 4)) = .ok () ((W.alloc (.cells #[.pointer none, .slice none 0 0, .map none] 137)).alloc (.map (partsC W.heap.size 5) 5)) := by
    have := updP (w := (W.alloc (.cells #[.pointer none, .slice none 0 0, .map none] 137))) (es := partsC W.heap.size 4) (clock := 4) (a := 5) (v := .func (.func 111) #[.pointer (some ⟨W.heap.size, 0, none⟩)] #[]) (by rfl)
    rw [hXs] at this
    exact this
  have u5 : (Instr.mapUpdate 135 (.map (some (W.heap.size + 1))) (.int .i64 6) (.func (.func 112) #[.pointer (some ⟨W.heap.size, 0, none⟩)] #[])).run Tryz.prog ((W.alloc (.cells #[.pointer none, .slice none 0 0, .map none] 137)).alloc (.map (partsC W.heap.size 5) 5)) = .ok () ((W.alloc (.cells #[.pointer none, .slice none 0 0, .map none] 137)).alloc (.map (partsC W.heap.size 6) 6)) := by
    have := updP (w := (W.alloc (.cells #[.pointer none, .slice none 0 0, .map none] 137))) (es := partsC W.heap.size 5) (clock := 5) (a := 6) (v := .func (.func 112) #[.pointer (some ⟨W.heap.size, 0, none⟩)] #[]) (by rfl)
    rw [hXs] at this
    exact this
  have u6 : (Instr.mapUpdate 135 (.map (some (W.heap.size + 1))) (.int .i64 7) (.func (.func 113) #[.pointer (some ⟨W.heap.size, 0, none⟩)] #[])).run Tryz.prog ((W.alloc (.cells #[.pointer none, .slice none 0 0, .map none] 137)).alloc (.map (partsC W.heap.size 6) 6)) = .ok () ((W.alloc (.cells #[.pointer none, .slice none 0 0, .map none] 137)).alloc (.map (partsC W.heap.size 7) 7)) := by
    have := updP (w := (W.alloc (.cells #[.pointer none, .slice none 0 0, .map none] 137))) (es := partsC W.heap.size 6) (clock := 6) (a := 7) (v := .func (.func 113) #[.pointer (some ⟨W.heap.size, 0, none⟩)] #[]) (by rfl)
    rw [hXs] at this
    exact this
  have u7 : (Instr.mapUpdate 135 (.map (some (W.heap.size + 1))) (.int .i64 8) (.func (.func 114) #[.pointer (some ⟨W.heap.size, 0, none⟩)] #[])).run Tryz.prog ((W.alloc (.cells #[.pointer none, .slice none 0 0, .map none] 137)).alloc (.map (partsC W.heap.size 7) 7)) = .ok () ((W.alloc (.cells #[.pointer none, .slice none 0 0, .map none] 137)).alloc (.map (partsC W.heap.size 8) 8)) := by
    have := updP (w := (W.alloc (.cells #[.pointer none, .slice none 0 0, .map none] 137))) (es := partsC W.heap.size 7) (clock := 7) (a := 8) (v := .func (.func 114) #[.pointer (some ⟨W.heap.size, 0, none⟩)] #[]) (by rfl)
    rw [hXs] at this
    exact this
  have u8 : (Instr.mapUpdate 135 (.map (some (W.heap.size + 1))) (.int .i64 9) (.func (.func 115) #[.pointer (some ⟨W.heap.size, 0, none⟩)] #[])).run Tryz.prog ((W.alloc (.cells #[.pointer none, .slice none 0 0, .map none] 137)).alloc (.map (partsC W.heap.size 8) 8)) = .ok () ((W.alloc (.cells #[.pointer none, .slice none 0 0, .map none] 137)).alloc (.map (partsC W.heap.size 9) 9)) := by
    have := updP (w := (W.alloc (.cells #[.pointer none, .slice none 0 0, .map none] 137))) (es := partsC W.heap.size 8) (clock := 8) (a := 9) (v := .func (.func 115) #[.pointer (some ⟨W.heap.size, 0, none⟩)] #[]) (by rfl)
    rw [hXs] at this
    exact this
  have u9 : (Instr.mapUpdate 135 (.map (some (W.heap.size + 1))) (.int .i64 10) (.func (.func 116) #[.pointer (some ⟨W.heap.size, 0, none⟩)] #[])).run Tryz.prog ((W.alloc (.cells #[.pointer none, .slice none 0 0, .map none] 137)).alloc (.map (partsC W.heap.size 9) 9)) = .ok () ((W.alloc (.cells #[.pointer none, .slice none 0 0, .map none] 137)).alloc (.map (partsC W.heap.size 10) 10)) := by
    have := updP (w := (W.alloc (.cells #[.pointer none, .slice none 0 0, .map none] 137))) (es := partsC W.heap.size 9) (clock := 9) (a := 10) (v := .func (.func 116) #[.pointer (some ⟨W.heap.size, 0, none⟩)] #[]) (by rfl)
    rw [hXs] at this
    exact this
  obtain ⟨W5, hW5⟩ : ∃ W5, W5 = (W.alloc (.cells #[.pointer none, .slice none 0 0, .map none] 137)).alloc (.map (partsC W.heap.size 10) 10) := ⟨_, rfl⟩
  have HB : Hid (Bx W5 W.heap.size (wcC (.pointer none) (.slice none 0 0) (.map none)) 137) := Lib.hid (by rw [hW5]; exact (Bx.new W _ _).alloc _)
  have HM : Hid (W5.heap[W.heap.size + 1]? = some (.map (partsC W.heap.size 10) 10)) := Lib.hid (by rw [hW5, ← hXs]; exact heap_alloc_new _ _)
  have HBl : Hid (Below W.heap.size W W5) := Lib.hid (by rw [hW5]; exact below_a (below_a (Below.refl _ _) _) _)
  rw [← hW5] at u9
  have g2 : W5.cell? ⟨W.heap.size, 2, none⟩ = some (.map none) := HB.out.c 2 rfl
  have f2 := HB.out.f 2
  clear hW5
  go_enter Tryz.func70, Tryz.ntmps70
  go_wp2
  go_ret
  refine ⟨_, W.heap.size + 1, rfl, ?_, _, _, .inl rfl, ⟨Nat.le_refl _, HBl.out.setCell (p := ⟨W.heap.size, 2, none⟩) (Nat.le_refl _) _, HB.out.set 2 _, World.ownsRow_nil _ _ _ _⟩⟩
  exact (Below.heap_setCell _ ⟨W.heap.size, 2, none⟩ _ _ (by show W.heap.size + 1 ≠ W.heap.size; omega)).trans HM.out
end Go.Proofs.YtppapkpceejnkaaGreatDoor
