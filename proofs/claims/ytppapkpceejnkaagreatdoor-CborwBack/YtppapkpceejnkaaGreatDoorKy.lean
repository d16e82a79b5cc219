/- The law's own: shown; the law CborwApart. What is written is read again (plain mathematics). What the laws share: the first bytes, heads as they are made. -/
import Derived.Test.YtppapkpceejnkaaGreatDoorKx
import Derived.Test.YtppapkpceejnkaaGreatDoorK24
import Derived.Test.YtppapkpceejnkaaGreatDoorK23
import Derived.Test.YtppapkpceejnkaaGreatDoorKv
import Derived.Test.YtppapkpceejnkaaGreatDoorKq
import Derived.Test.YtppapkpceejnkaaGreatDoorKc
namespace Go.Proofs.YtppapkpceejnkaaGreatDoor
open Go.RowKit

theorem cells_at {W : World} {B : Nat} {cs : Array Value} {T : TypeId} {h : Hd} {v : Value} (hL : Bx W B cs T) (o : Nat) (he : ∀ i, i < 9 → cs[o + i]? = (h.cells v)[i]?) : Cells W B o (h.cells v) := fun i u hi => by
  have hi9 : i < 9 := by
    have := (Array.getElem?_eq_some_iff.1 hi).1
    exact this
  exact hL.c (o + i) ((he i hi9).trans hi)
def tAH : Hd := ⟨5, false, false, ⟨#[]⟩, 0, 0, 0, ⟨#[97]⟩⟩
def n5H : Hd := ⟨3, false, true, ⟨#[53]⟩, 2, 0, 0, ⟨#[]⟩⟩
def n1H : Hd := ⟨3, false, false, ⟨#[49]⟩, 0, 0, 0, ⟨#[]⟩⟩
def bEH : Hd := ⟨6, false, false, ⟨#[]⟩, 0, 0, 0, ⟨#[]⟩⟩
def exH : Hd := ⟨11, false, false, ⟨#[]⟩, 0, 0, 0, ⟨#[]⟩⟩
def shF : Fo := .cons tAH .nil (.cons n5H .nil (.cons n1H .nil (.cons bEH .nil .nil)))
theorem sh_gl : AllG Gl (.cons mapC shF .nil) := ⟨(by show (4 : Nat) < 1353245080301; decide), ⟨(by show (0 : Nat) < 1353245080301; decide), trivial, (by show (0 : Nat) < 1353245080301; decide), trivial, (by show (0 : Nat) < 1353245080301; decide), trivial, (by show (0 : Nat) < 1353245080301; decide), trivial, trivial⟩, trivial⟩
theorem sh_chk : chk 2 mapC shF = 0 := by kernel_rfl
theorem sh_doc : docI mapC shF = ⟨#[162, 97, 97, 57, 1, 243, 1, 64]⟩ := by kernel_rfl
theorem ex_chk : chk 2 exH .nil = 61 := by kernel_rfl
theorem ex_doc : docI exH .nil = ⟨#[]⟩ := by kernel_rfl
theorem kd_sh {W : World} {L : Nat} (hL : Bx W L #[.int .i64 5, .bool false, .bool false, .string ⟨#[]⟩, .int .i64 0, .int .u64 0, .int .i64 0, .string ⟨#[97]⟩, .slice none 0 0, .int .i64 3, .bool false, .bool true, .string ⟨#[53]⟩, .int .i64 2, .int .u64 0, .int .i64 0, .string ⟨#[]⟩, .slice none 0 0, .int .i64 3, .bool false, .bool false, .string ⟨#[49]⟩, .int .i64 0, .int .u64 0, .int .i64 0, .string ⟨#[]⟩, .slice none 0 0, .int .i64 6, .bool false, .bool false, .string ⟨#[]⟩, .int .i64 0, .int .u64 0, .int .i64 0, .string ⟨#[]⟩, .slice none 0 0] 28) : Kd An W (.slice (some ⟨L, 0, none⟩) 4 4) shF := by
  refine .inr ⟨L, 0, 4, rfl, Nat.le_refl _, by show 0 + 1 + 1 + 1 + 1 < _; decide, hL.lt, trivial, ⟨⟨.slice none 0 0, ?_, .inl ⟨none, 0, rfl, rfl⟩⟩, by decide, ⟨⟨.slice none 0 0, ?_, .inl ⟨none, 0, rfl, rfl⟩⟩, by decide, ⟨⟨.slice none 0 0, ?_, .inl ⟨none, 0, rfl, rfl⟩⟩, by decide, ⟨⟨.slice none 0 0, ?_, .inl ⟨none, 0, rfl, rfl⟩⟩, by decide, trivial⟩⟩⟩⟩⟩
  · exact (cells_at (h := tAH) (v := .slice none 0 0) hL 0 (fun i hi => by
    match i, hi with
    | 0, _ => rfl
    | 1, _ => rfl
    | 2, _ => rfl
    | 3, _ => rfl
    | 4, _ => rfl
    | 5, _ => rfl
    | 6, _ => rfl
    | 7, _ => rfl
    | 8, _ => rfl
    | i + 9, hi => omega))
  · exact (cells_at (h := n5H) (v := .slice none 0 0) hL 9 (fun i hi => by
    match i, hi with
    | 0, _ => rfl
    | 1, _ => rfl
    | 2, _ => rfl
    | 3, _ => rfl
    | 4, _ => rfl
    | 5, _ => rfl
    | 6, _ => rfl
    | 7, _ => rfl
    | 8, _ => rfl
    | i + 9, hi => omega))
  · exact (cells_at (h := n1H) (v := .slice none 0 0) hL 18 (fun i hi => by
    match i, hi with
    | 0, _ => rfl
    | 1, _ => rfl
    | 2, _ => rfl
    | 3, _ => rfl
    | 4, _ => rfl
    | 5, _ => rfl
    | 6, _ => rfl
    | 7, _ => rfl
    | 8, _ => rfl
    | i + 9, hi => omega))
  · exact (cells_at (h := bEH) (v := .slice none 0 0) hL 27 (fun i hi => by
    match i, hi with
    | 0, _ => rfl
    | 1, _ => rfl
    | 2, _ => rfl
    | 3, _ => rfl
    | 4, _ => rfl
    | 5, _ => rfl
    | 6, _ => rfl
    | 7, _ => rfl
    | 8, _ => rfl
    | i + 9, hi => omega))
set_option maxRecDepth 100000 in
set_option maxHeartbeats 1000000 in
theorem shown12_calls (w : World) (hT : Tv w) : Calls Tryz.prog 22 #[] w (BolP true w) := by
  obtain ⟨W1, hW1⟩ : ∃ W1, W1 = (w.alloc (.cells #[.int .i64 5, .bool false, .bool false, .string ⟨#[]⟩, .int .i64 0, .int .u64 0, .int .i64 0, .string ⟨#[97]⟩, .slice none 0 0, .int .i64 3, .bool false, .bool true, .string ⟨#[53]⟩, .int .i64 2, .int .u64 0, .int .i64 0, .string ⟨#[]⟩, .slice none 0 0, .int .i64 3, .bool false, .bool false, .string ⟨#[49]⟩, .int .i64 0, .int .u64 0, .int .i64 0, .string ⟨#[]⟩, .slice none 0 0, .int .i64 6, .bool false, .bool false, .string ⟨#[]⟩, .int .i64 0, .int .u64 0, .int .i64 0, .string ⟨#[]⟩, .slice none 0 0] 28)).alloc (.cells #[.int .i64 8, .bool false, .bool false, .string ⟨#[]⟩, .int .i64 0, .int .u64 0, .int .i64 0, .string ⟨#[]⟩, .slice (some ⟨w.heap.size, 0, none⟩) 4 4] 28) := ⟨_, rfl⟩
  have HB1 : Hid (Below w.heap.size w W1) := Lib.hid (by rw [hW1]; exact below_a (below_a (Below.refl _ _) _) _)
  have hL1 : Bx W1 w.heap.size #[.int .i64 5, .bool false, .bool false, .string ⟨#[]⟩, .int .i64 0, .int .u64 0, .int .i64 0, .string ⟨#[97]⟩, .slice none 0 0, .int .i64 3, .bool false, .bool true, .string ⟨#[53]⟩, .int .i64 2, .int .u64 0, .int .i64 0, .string ⟨#[]⟩, .slice none 0 0, .int .i64 3, .bool false, .bool false, .string ⟨#[49]⟩, .int .i64 0, .int .u64 0, .int .i64 0, .string ⟨#[]⟩, .slice none 0 0, .int .i64 6, .bool false, .bool false, .string ⟨#[]⟩, .int .i64 0, .int .u64 0, .int .i64 0, .string ⟨#[]⟩, .slice none 0 0] 28 := by rw [hW1]; exact (Bx.new w _ _).alloc _
  have HT := Lib.hid hT
  have HA : Hid (Calls Tryz.prog 24 #[.agg #[.int .i64 8, .bool false, .bool false, .string ⟨#[]⟩, .int .i64 0, .int .u64 0, .int .i64 0, .string ⟨#[]⟩, .slice (some ⟨w.heap.size, 0, none⟩) 4 4]] W1 fun o w' => o = .returned (.tuple #[.string ⟨#[162, 97, 97, 57, 1, 243, 1, 64]⟩, .int .i64 0]) ∧ Below W1.heap.size W1 w') := Lib.hid (by
    have := Write_calls12 mapC shF _ W1 (HT.out.below HB1.out) (kd_sh hL1) (by decide) (by decide) sh_gl
    unfold DocI at this
    rw [sh_chk, sh_doc] at this
    exact this)
  have HE : Hid (∀ W, Below w.heap.size w W → Calls Tryz.prog 24 #[.agg #[.int .i64 11, .bool false, .bool false, .string ⟨#[]⟩, .int .i64 0, .int .u64 0, .int .i64 0, .string ⟨#[]⟩, .slice none 0 0]] W fun o w' => o = .returned (.tuple #[.string ⟨#[]⟩, .int .i64 61]) ∧ Below W.heap.size W w') := Lib.hid (fun W hb => by
    have := Write_calls12 exH .nil (.slice none 0 0) W (HT.out.below hb) (.inl ⟨none, 0, rfl, rfl⟩) (by decide) (by decide) ⟨(by show (0 : Nat) < 1353245080301; decide), trivial, trivial⟩
    unfold DocI at this
    rw [ex_chk, ex_doc] at this
    exact this)
  clear hT hL1
  go_enter Tryz.func22, Tryz.ntmps22
  go_wp2_with fail
  rw [← hW1]
  clear hW1
  refine HA.out.mono ?_
  rintro o w2 ⟨rfl, hb2⟩
  have HB2 := Lib.hid (below_nx HB1.out hb2)
  clear hb2
  go_wp2_with fail
  refine (HE.out _ HB2.out).mono ?_
  rintro o w3 ⟨rfl, hb3⟩
  have HB3 := Lib.hid (below_nx HB2.out hb3)
  clear hb3
  go_wp2
  go_ret
  exact ⟨rfl, HB3.out⟩
end Go.Proofs.YtppapkpceejnkaaGreatDoor
namespace Go.Proofs.YtppapkpceejnkaaGreatDoor
open Go.RowKit

/-- What is written is read again, unless it is too long. -/
theorem doc_plain {h : Hd} {k : Fo} (e : chk 2 h k = 0) (hu : AllG Gu (.cons h k .nil)) : docR (itB h k) = if 4000 < (itB h k).length then .error 81 else .ok (h, k) := by
  have h1 := it_back e hu []
  rw [List.append_nil] at h1
  rw [docR, h1]
  split
  · rfl
  · simp only [docS]
    rw [if_neg (by simp), if_pos e]
theorem tc_tv {w : World} (h : Tc w) : Tv w := ⟨h.1.1, h.2.1⟩
end Go.Proofs.YtppapkpceejnkaaGreatDoor
namespace Go.Proofs.YtppapkpceejnkaaGreatDoor
open Go.RowKit

/-- The first bytes. -/
def cutN (n : Nat) (s : ByteArray) : List UInt8 := (s.extract 0 (min (s.size : Int) (n : Int)).toNat).data.toList
theorem cutN_len (n : Nat) (s : ByteArray) : (cutN n s).length ≤ n := by
  unfold cutN
  rw [Array.length_toList, ByteArray.size_data, ByteArray.size_extract]
  omega
theorem self_hd (h : Hd) : sameH h h = true := by simp [sameH]
theorem self_fo : ∀ (f : Fo), sameF f f = true
  | .nil => rfl
  | .cons h k r => by rw [sameF, self_hd, self_fo k, self_fo r]; rfl
theorem cat_l (a b : List UInt8) : (⟨a.toArray⟩ : ByteArray) ++ ⟨b.toArray⟩ = ⟨(a ++ b).toArray⟩ := str_inj (by rw [app_data])
end Go.Proofs.YtppapkpceejnkaaGreatDoor
