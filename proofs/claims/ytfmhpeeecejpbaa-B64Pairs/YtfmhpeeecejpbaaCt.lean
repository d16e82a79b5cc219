/- The program's own contracts. -/
import Derived.Test.YtfmhpeeecejpbaaPo
import Derived.Test.YtfmhpeeecejpbaaWr
import Derived.Test.YtfmhpeeecejpbaaRe
namespace Go.Proofs.Ytfmhpeeecejpbaa
open Go.RowKit

/-- What the world must hold. -/
def Tb (_ : World) : Prop := True
theorem Tb.below {w w' : World} (_ : Tb w) (_ : Below w.heap.size w w') : Tb w' := trivial

theorem wr_code (s : ByteArray) : (⟨(((foldR 8 6 (s.data.toList.map (·.toNat))).1 ++ fillL 6 (foldR 8 6 (s.data.toList.map (·.toNat)))).map fun n => UInt8.ofNat (lettN n)).toArray⟩ : ByteArray) = codeB s := by
  rw [codeB, ← code_of_fold, ← List.map_append]; rfl
theorem wr_pair (s : ByteArray) : (⟨(((foldR 8 4 (s.data.toList.map (·.toNat))).1 ++ fillL 4 (foldR 8 4 (s.data.toList.map (·.toNat)))).map fun n => UInt8.ofNat (hexN n)).toArray⟩ : ByteArray) = pairB s := by
  rw [pairB, ← pairs_of_fold, ← List.map_append]; rfl

theorem write64 (s : ByteArray) (w : World) : Calls Try.prog 21 #[.agg A64, .string s] w (CodePost s w) := by
  by_cases h : s.size ≤ 400
  · refine (write_yes 6 lettN A64 alph64 s w h).mono ?_
    rintro e w' ⟨rfl, hb⟩
    exact ⟨.inl ⟨h, by rw [wr_code]⟩, hb⟩
  · refine (write_no A64 s w (by omega)).mono ?_
    rintro e w' ⟨rfl, hb⟩
    exact ⟨.inr ⟨by omega, rfl⟩, hb⟩
theorem write16 (s : ByteArray) (w : World) : Calls Try.prog 21 #[.agg A16, .string s] w (PairPost s w) := by
  by_cases h : s.size ≤ 400
  · refine (write_yes 4 hexN A16 alph16 s w h).mono ?_
    rintro e w' ⟨rfl, hb⟩
    exact ⟨.inl ⟨h, by rw [wr_pair]⟩, hb⟩
  · refine (write_no A16 s w (by omega)).mono ?_
    rintro e w' ⟨rfl, hb⟩
    exact ⟨.inr ⟨by omega, rfl⟩, hb⟩

theorem allL64 (l : List UInt8) : allL 6 numb l = l.all isLett := rfl
theorem allL16 (l : List UInt8) : allL 4 unhex l = l.all isHex := rfl
theorem read64 (t : ByteArray) (w : World) : Calls Try.prog 23 #[.agg A64, .string t] w (DecPost t w) := by
  refine (read_calls 6 lettN numb A64 alph64 back64 t w).mono ?_
  rintro e w' (⟨⟨⟨h1, h2⟩, h3⟩, rfl, hb⟩ | ⟨h, rfl, hb⟩)
  · rw [allL64] at h2
    have hl : t.data.toList.length ≤ 534 := by rw [size_data]; exact h1
    exact ⟨.inl ⟨(isCode_fold _ hl h2).2 h3, by rw [(raw_of_fold _ h2).1]⟩, hb⟩
  · refine ⟨.inr ⟨?_, rfl⟩, hb⟩
    rw [Bool.eq_false_iff]
    intro hc
    have h2 := isCode_all hc
    have hl : t.data.toList.length ≤ 534 := by
      simp only [isCode, Bool.and_eq_true, decide_eq_true_eq] at hc; exact hc.1
    exact h ⟨⟨by rw [size_data] at hl; exact hl, h2⟩, (isCode_fold _ hl h2).1 hc⟩
theorem read16 (t : ByteArray) (w : World) : Calls Try.prog 23 #[.agg A16, .string t] w (UnpPost t w) := by
  refine (read_calls 4 hexN unhex A16 alph16 back16 t w).mono ?_
  rintro e w' (⟨⟨⟨h1, h2⟩, h3⟩, rfl, hb⟩ | ⟨h, rfl, hb⟩)
  · rw [allL16] at h2
    have hl : t.data.toList.length ≤ 800 := by rw [size_data]; exact h1
    exact ⟨.inl ⟨(isPairs_fold _ hl h2).2 h3, by rw [(unp_of_fold _ h2).1]⟩, hb⟩
  · refine ⟨.inr ⟨?_, rfl⟩, hb⟩
    rw [Bool.eq_false_iff]
    intro hc
    have h2 := isPairs_all hc
    have hl : t.data.toList.length ≤ 800 := by
      simp only [isPairs, Bool.and_eq_true, decide_eq_true_eq] at hc; exact hc.1.1
    exact h ⟨⟨by rw [size_data] at hl; exact hl, h2⟩, (isPairs_fold _ hl h2).1 hc⟩

set_option maxRecDepth 100000 in
theorem Code_calls (s : ByteArray) (w : World) (_ : Tb w) : Calls Try.prog 10 #[.string s] w (CodePost s w) := by
  go_enter Try.func10, Try.ntmps10
  go_wp2_with fail
  refine (sixty_calls _).mono ?_
  rintro e w1 ⟨rfl, hb1⟩
  go_wp2_with fail
  refine (write64 s _).mono ?_
  rintro e w' ⟨⟨h, rfl⟩ | ⟨h, rfl⟩, hb⟩
  · go_wp2
    go_ret2
    exact ⟨.inl ⟨h, rfl⟩, hb1.trans (hb.mono hb1.size)⟩
  · go_wp2
    go_ret2
    exact ⟨.inr ⟨h, rfl⟩, hb1.trans (hb.mono hb1.size)⟩
set_option maxRecDepth 100000 in
theorem Pairs_calls (s : ByteArray) (w : World) (_ : Tb w) : Calls Try.prog 16 #[.string s] w (PairPost s w) := by
  go_enter Try.func16, Try.ntmps16
  go_wp2_with fail
  refine (sixteen_calls _).mono ?_
  rintro e w1 ⟨rfl, hb1⟩
  go_wp2_with fail
  refine (write16 s _).mono ?_
  rintro e w' ⟨⟨h, rfl⟩ | ⟨h, rfl⟩, hb⟩
  · go_wp2
    go_ret2
    exact ⟨.inl ⟨h, rfl⟩, hb1.trans (hb.mono hb1.size)⟩
  · go_wp2
    go_ret2
    exact ⟨.inr ⟨h, rfl⟩, hb1.trans (hb.mono hb1.size)⟩
set_option maxRecDepth 100000 in
theorem Decode_calls (t : ByteArray) (w : World) (_ : Tb w) : Calls Try.prog 13 #[.string t] w (DecPost t w) := by
  go_enter Try.func13, Try.ntmps13
  go_wp2_with fail
  refine (sixty_calls _).mono ?_
  rintro e w1 ⟨rfl, hb1⟩
  go_wp2_with fail
  refine (read64 t _).mono ?_
  rintro e w' ⟨⟨h, rfl⟩ | ⟨h, rfl⟩, hb⟩
  · have H := Lib.hid h
    clear h
    go_wp2
    go_ret2
    exact ⟨.inl ⟨H.out, rfl⟩, hb1.trans (hb.mono hb1.size)⟩
  · have H := Lib.hid h
    clear h
    go_wp2
    go_ret2
    exact ⟨.inr ⟨H.out, rfl⟩, hb1.trans (hb.mono hb1.size)⟩
set_option maxRecDepth 100000 in
theorem Unpair_calls (t : ByteArray) (w : World) (_ : Tb w) : Calls Try.prog 18 #[.string t] w (UnpPost t w) := by
  go_enter Try.func18, Try.ntmps18
  go_wp2_with fail
  refine (sixteen_calls _).mono ?_
  rintro e w1 ⟨rfl, hb1⟩
  go_wp2_with fail
  refine (read16 t _).mono ?_
  rintro e w' ⟨⟨h, rfl⟩ | ⟨h, rfl⟩, hb⟩
  · have H := Lib.hid h
    clear h
    go_wp2
    go_ret2
    exact ⟨.inl ⟨H.out, rfl⟩, hb1.trans (hb.mono hb1.size)⟩
  · have H := Lib.hid h
    clear h
    go_wp2
    go_ret2
    exact ⟨.inr ⟨H.out, rfl⟩, hb1.trans (hb.mono hb1.size)⟩
set_option maxRecDepth 100000 in
theorem IsCode_calls (t : ByteArray) (w : World) (hT : Tb w) : Calls Try.prog 15 #[.string t] w fun e w' => e = .returned (.bool (isCode t.data.toList)) ∧ Below w.heap.size w w' := by
  go_enter Try.func15, Try.ntmps15
  go_wp2_with fail
  refine (Decode_calls t _ hT).mono ?_
  rintro e w' ⟨⟨h, rfl⟩ | ⟨h, rfl⟩, hb⟩
  · have H := Lib.hid h
    clear h
    go_wp2
    go_ret
    exact ⟨by rw [H.out]; rfl, hb⟩
  · have H := Lib.hid h
    clear h
    go_wp2
    go_ret
    exact ⟨by rw [H.out]; rfl, hb⟩
end Go.Proofs.Ytfmhpeeecejpbaa
