/- The walk of Bytes. -/
import Derived.Shelf.SlicesE.Reverse
import Derived.Lib.OwnBridge
import Derived.Laws.IdiomStrings
import Derived.Deep.LoopGhost
import Derived.Test.YtgcalhnfoakggaaGreatDoorRAll
import Derived.Test.YtgcalhnfoakggaaGreatDoorDivd
import Derived.Test.YtgcalhnfoakggaaGreatDoorScale
namespace Go.Proofs.YtgcalhnfoakggaaGreatDoor
open Go.RowKit

/-- A natural's bytes, the least one first. -/
def byteL (n : Nat) : List UInt8 := if h : n = 0 then [] else UInt8.ofNat (n % 256) :: byteL (n / 256)
  termination_by n
  decreasing_by omega
theorem byteL_zero : byteL 0 = [] := by rw [byteL]; simp
theorem byteL_pos {n : Nat} (h : 0 < n) : byteL n = UInt8.ofNat (n % 256) :: byteL (n / 256) := by
  conv => lhs; rw [byteL]
  rw [dif_neg (by omega)]
theorem byteL_len {k : Nat} : ∀ {n : Nat}, n < 256 ^ k → (byteL n).length ≤ k := by
  induction k with
  | zero => intro n h; obtain rfl : n = 0 := by simpa using h
            rw [byteL_zero]; simp
  | succ k ih =>
    intro n h
    by_cases h0 : n = 0
    · subst h0; rw [byteL_zero]; simp
    · rw [byteL_pos (by omega), List.length_cons]
      have := ih (n := n / 256) (Nat.div_lt_of_lt_mul (by rw [Nat.pow_succ, Nat.mul_comm] at h; exact h))
      omega
theorem byteL_val {L : List Nat} (h : Bd L) : (byteL (val L)).length ≤ 4 * L.length := by
  apply byteL_len
  refine Nat.lt_of_lt_of_le (val_lt h) ?_
  rw [Nat.pow_mul]
  exact Nat.pow_le_pow_left (by decide) _
theorem val_pos {L : List Nat} (h : Nm L) (hne : 0 < L.length) : 0 < val L :=
  Nat.lt_of_lt_of_le (Nat.pow_pos (by omega)) (val_ge h (List.length_pos_iff.1 hne))

def encB (b : UInt8) : Value := .int .u8 (b.toNat : Int)
theorem encB_one : OneCell encB := fun _ => rfl
theorem encB_ofNat {r : Nat} (h : r < 256) : encB (UInt8.ofNat r) = .int .u8 (r : Int) := by
  rw [encB, UInt8.toNat_ofNat', Nat.mod_eq_of_lt (by simpa using h)]

def slE35_ren : Go.Shelf.Ren := ⟨fun | 35 => 76 | n => n, fun | 22 => 81 | 23 => 5 | n => n, fun n => n⟩
theorem slE35 : Go.Proofs.SlLaysE.n35 Tryz.prog slE35_ren := {
  mixed := by kernel_rfl
  f35 := ⟨Tryz.f76.name, by kernel_rfl, Tryz.func76.trans (congrArg some (by kernel_rfl))⟩
  t0 := Tryz.underlying0
  a0 := Tryz.isAgg0
  z0 := Tryz.sizeOf0
  v0 := Tryz.zeroValue0
  t3 := Tryz.underlying3
  a3 := Tryz.isAgg3
  z3 := Tryz.sizeOf3
  v3 := Tryz.zeroValue3
  t4 := Tryz.underlying4
  a4 := Tryz.isAgg4
  z4 := Tryz.sizeOf4
  v4 := Tryz.zeroValue4
  t22 := Tryz.underlying81
  a22 := Tryz.isAgg81
  z22 := Tryz.sizeOf81
  v22 := Tryz.zeroValue81
  a23 := Tryz.isAgg5
  z23 := Tryz.sizeOf5 }

theorem rev_calls (base : Nat) (v : Value) (n : Nat) (zs : List UInt8) (w : World) (h : w.ownsRow base 5 1 v n (zs.map encB)) (hn : n ≤ 1000) :
    Calls Tryz.prog 76 #[v] w fun e w' => e = .returned (.tuple #[]) ∧ w'.ownsRow base 5 1 v n (zs.reverse.map encB) ∧ Below base w w' := by
  by_cases hv : v = .slice none 0 0
  · subst hv
    refine (AnyE.slices_Reverse_empty slE35 none 0 w).mono ?_
    rintro e w' ⟨rfl, rfl⟩
    have h2 : zs = [] := by
      rcases h.2 with ⟨_, h2⟩ | ⟨_, _, _, e0, _⟩
      · have := h.1
        simp only [List.length_map, Nat.mul_one] at this
        exact List.eq_nil_of_length_eq_zero (by omega)
      · cases e0
    subst h2
    exact ⟨rfl, h, Below.refl _ _⟩
  · obtain ⟨g, cap, rfl, hb, hlt, hnc, hcm, hl, hh⟩ := Lib.holds_of_ownsRow h hv
    subst hl
    refine (AnyE.slices_Reverse slE35 encB encB_one g 0 cap zs w hh (by omega)).mono ?_
    rintro e w' ⟨rfl, q, rfl⟩
    refine ⟨rfl, ?_, Lib.below_putRow (Below.refl _ _) hb⟩
    have := Lib.ownsRow_putRow (q := q) (k := zs.length) h (ys := zs.reverse) (by simp) (Nat.le_refl _)
    rwa [List.take_of_length_le (by simp)] at this

theorem conv_own {base : Nat} {v : Value} {n : Nat} {zs : List UInt8} {w : World} (h : w.ownsRow base 5 1 v n (zs.map encB)) :
    (convert 81 9 v).run Tryz.prog w = .ok (.string ⟨zs.toArray⟩) w := by
  by_cases hv : v = .slice none 0 0
  · subst hv
    have h2 : zs = [] := by
      rcases h.2 with ⟨_, h2⟩ | ⟨_, _, _, e0, _⟩
      · have := h.1
        simp only [List.length_map, Nat.mul_one] at this
        exact List.eq_nil_of_length_eq_zero (by omega)
      · cases e0
    subst h2
    rw [run_convert_bytes_string w 81 9 5 none 0 0 Tryz.underlying81 Tryz.underlying5 Tryz.underlying9]
    rfl
  · obtain ⟨g, cap, rfl, hb, hlt, hnc, hcm, hl, hh⟩ := Lib.holds_of_ownsRow h hv
    subst hl
    refine run_convert_bytes_back w 81 9 5 _ cap zs Tryz.underlying81 Tryz.underlying5 Tryz.underlying9 (fun j hj => ?_)
    have := (hh j (by simpa using hj)).1
    rw [Addr.add_lit, this, encB, getElem!_pos _ j (by simpa using hj)]
    simp

theorem info5 : (Tryz.prog.info? 5).map (fun i => (i.zero, i.size, i.bytes)) = some (some (.int .u8 0), 1, 1) := by kernel_rfl

theorem own_below {A B : World} {base : Nat} {e : TypeId} {size : Nat} {v : Value} {n : Nat} {xs : List Value} (h : A.ownsRow base e size v n xs) (hb : Below A.heap.size A B) : B.ownsRow base e size v n xs := by
  refine ⟨h.1, ?_⟩
  rcases h.2 with h2 | ⟨g, cap, cur, rfl, h3, hg, h4⟩
  · exact .inl h2
  · exact .inr ⟨g, cap, cur, rfl, h3, by rw [hb.block g (Array.getElem?_eq_some_iff.1 hg).1]; exact hg, h4⟩

theorem lm_grown {A B : World} {b n c : Nat} {L : List Nat} {row : Option Nat} (h : Lm A (.slice (some ⟨b, 0, none⟩) n c) L) (hg : A.grownBy B row) (hne : some b ≠ row) : Lm B (.slice (some ⟨b, 0, none⟩) n c) L := by
  rcases h with ⟨h, _⟩ | ⟨g, off, cap, e, hc, hlt, hcs⟩
  · cases h
  · injection e with e1 e2 e3
    injection e1 with e1
    injection e1 with e1 e4
    subst e1 e2 e3 e4
    exact .inr ⟨b, 0, _, rfl, hc, Nat.lt_of_lt_of_le hlt hg.size, fun j hj => hg.cell (hcs j hj) hne⟩
theorem lm_alloc {A : World} {v : Value} {L : List Nat} (h : Lm A v L) (o : Obj) : Lm (A.alloc o) v L := h.below ((Below.refl _ _).alloc (Nat.le_refl _) o)

theorem divide_256 (L : List Nat) (v : Value) (w : World) (hl : L.length ≤ 1000) (hx : Lm w v L) (bd : Bd L) :
    Calls Tryz.prog 75 #[v, .int .u32 256] w (DivPost (val L / 256) (val L % 256) L.length w) := divide_calls L v 256 w hl (by omega) (by omega) hx bd

set_option maxRecDepth 100000 in
set_option maxHeartbeats 1000000 in
theorem Bytes_yes (sa : ByteArray) (w : World) (ha : isNat sa.data.toList = true) :
    Calls Tryz.prog 57 #[.string sa] w fun e w' => e = .returned (.tuple #[.string ⟨(byteL (dv sa.data.toList)).reverse.toArray⟩, .int .i64 0]) ∧ Below w.heap.size w w' := by
  obtain ⟨i0, hi, hz0, hz1, hz2⟩ := info_parts info5
  have HI := Lib.hid hi
  have HZ0 := Lib.hid hz0
  have HZ1 := Lib.hid hz1
  have HZ2 := Lib.hid hz2
  have HA := Lib.hid ha
  clear ha hi hz0 hz1 hz2
  go_enter Tryz.func57, Tryz.ntmps57
  go_wp2_with (go_at_call 72; refine (read_yes _ _ HA.out).mono ?_; rintro e w1 ⟨R1, v1, rfl, hl1, hd1, hn1, hv1, hr1, hb1⟩; obtain ⟨a1, c1, rfl⟩ := hl1.shape; have HL1 := Lib.hid hl1; have HV1 := Lib.hid hv1; clear hl1 hv1)
  go_loopg [4, 6, 7] 1000 (fun k vx vo _ wr => ∃ (X : List Nat) (zs : List UInt8), Lm wr vx X ∧ Bd X ∧ Nm X ∧ byteL (dv sa.data.toList) = zs ++ byteL (val X) ∧ (byteL (val X)).length ≤ k ∧ X.length ≤ 45 ∧ wr.ownsRow w.heap.size 5 1 vo zs.length (zs.map encB) ∧ Below w.heap.size w wr)
  case atStart =>
    exact ⟨R1, [], HL1.out, hd1, hn1, by rw [HV1.out]; rfl, by have := byteL_val hd1; omega, hr1, World.ownsRow_nil _ _ _ _, hb1⟩
  case round =>
    obtain ⟨X, zs, hl, hd, hn, hz, hk, hx, ho, hb⟩ := hrel
    obtain ⟨a2, c2, rfl⟩ := hl.shape
    have HL := Lib.hid hl
    have HZ := Lib.hid hz
    have HO := Lib.hid ho
    have HB := Lib.hid hb
    have hzl : zs.length ≤ 1000 := by
      have h1 := congrArg List.length hz
      have h2 := byteL_val hd1
      rw [HV1.out, h1, List.length_append] at h2
      omega
    clear hl hz ho hb
    by_cases h0 : 0 < X.length
    · have hv0 := val_pos hn h0
      have hm : val X % 256 < 256 := Nat.mod_lt _ (by omega)
      have HK := Lib.hid hk
      clear hk
      go_wp2_with (first
        | (go_at_call 75; refine (divide_256 X _ _ (by omega) HL.out hd).mono ?_; rintro e w2 ⟨R2, v2, rfl, hl2, hd2, hn2, hv2, hr2, hb2, b3, c3, rfl, hb3⟩; have HL2 := Lib.hid hl2; have HV2 := Lib.hid hv2; have HB2 := Lib.hid hb2; have HO2 := Lib.hid (own_below HO.out hb2); clear hl2 hv2 hb2)
        | (at_builtin; refine wpList_append_own _ rfl (.tmp 23) (.tmp 26) 81 rfl w.heap.size 5 i0 (.int .u8 0) 1 1 Tryz.underlying81 HI.out HZ0.out HZ1.out HZ2.out rfl (by decide) _ _ _ rfl (HO2.out.alloc _) ⟨w2.heap.size, 0, none⟩ 1 1 [.int .u8 ((val X % 256 : Nat) : Int)] rfl rfl (cell_one_new _ _ _) (by simp [Value.oneCell']) (by unfold maxLen; omega) (by omega) (by have := HB.out.size; have := HB2.out.size; simp; omega) ?_; intro v' w3 hown3 hg3 hnil))
      have HO3 := Lib.hid hown3
      have HB3 := Lib.hid (((HB.out.trans (HB2.out.mono HB.out.size)).alloc (by have := HB.out.size; have := HB2.out.size; omega) _).grown hg3 (by have := HB.out.size; have := HB2.out.size; simp; omega) (fun k e => (HO2.out.lt k e).1))
      have HL3 := Lib.hid (lm_grown (lm_alloc HL2.out _) hg3 (fun e => by have := (HO.out.lt _ e.symm).2; omega))
      clear hown3 hg3 hnil
      go_roundg (byteL (val R2)).length
      case measure => have h := HK.out; rw [byteL_pos hv0, List.length_cons, ← HV2.out] at h; omega
      case rel =>
        refine ⟨R2, zs ++ [UInt8.ofNat (val X % 256)], HL3.out, hd2, hn2, by rw [HZ.out, byteL_pos hv0, HV2.out]; simp, Nat.le_refl _, by omega, ?_, HB3.out⟩
        rw [List.length_append, List.length_singleton, List.map_append, List.map_singleton, encB_ofNat hm]
        exact HO3.out
    · have hX : X = [] := List.eq_nil_of_length_eq_zero (by omega)
      subst hX
      have HE : Hid (byteL (dv sa.data.toList) = zs) := Lib.hid (by
        rw [HZ.out]; simp [val, vt, byteL_zero])
      go_wp2_with (go_at_call 76; refine (rev_calls w.heap.size _ _ zs _ HO.out hzl).mono ?_; rintro e w2 ⟨rfl, ho2, hb2⟩; have hcv := conv_own ho2)
      go_ret2
      exact ⟨by rw [HE.out]; rfl, HB.out.trans hb2⟩

set_option maxRecDepth 100000 in
set_option maxHeartbeats 1000000 in
theorem Bytes_no (sa : ByteArray) (w : World) (ha : isNat sa.data.toList = false) :
    Calls Tryz.prog 57 #[.string sa] w fun e w' => e = .returned (.tuple #[.string ⟨#[]⟩, .int .i64 10]) ∧ Below w.heap.size w w' := by
  have HA := Lib.hid ha
  clear ha
  go_enter Tryz.func57, Tryz.ntmps57
  go_wp2_with (go_at_call 72; refine (read_none _ _ HA.out).mono ?_; rintro e w1 ⟨rfl, hb1⟩)
  go_ret2
  exact ⟨rfl, hb1⟩
end Go.Proofs.YtgcalhnfoakggaaGreatDoor
