/- The walk of the document's own Decode. -/
import Derived.Test.YtfmhpeeecejpbaaRd
namespace Go.Proofs.Ytfmhpeeecejpbaa
open Go.RowKit

/-- What Decode tells of a text. -/
def DecPost (t : ByteArray) (w : World) (e : Ending) (w' : World) : Prop :=
  ((isCode t.data.toList = true ∧ e = .returned (.tuple #[.string ⟨(raw t.data.toList).toArray⟩, .int .i64 0])) ∨ (isCode t.data.toList = false ∧ e = .returned (.tuple #[.string noB, .int .i64 30]))) ∧ Below w.heap.size w w'
theorem dec_no {t : ByteArray} {w w' : World} (h : isCode t.data.toList = false) (hb : Below w.heap.size w w') : DecPost t w (.returned (.tuple #[.string noB, .int .i64 30])) w' := ⟨.inr ⟨h, rfl⟩, hb⟩

theorem code_letters {t : ByteArray} (h : isCode t.data.toList = true) {p : Nat} (hp : p < t.size) : numb (byteAt t p).toNat < 64 := by
  obtain ⟨s, _, hs⟩ := isCode_iff.1 h
  have h1 := code_all s
  rw [hs] at h1
  have hl : p < t.data.toList.length := by rw [size_data]; exact hp
  have h2 := (List.all_eq_true.1 h1) (t.data.toList[p]) (List.getElem_mem hl)
  rw [byteAt_list, List.getElem?_eq_getElem hl]
  simpa [isLett] using h2

def dg (t : ByteArray) (i : Nat) : Nat := if i < t.size then numb (byteAt t i).toNat else 0
def gv (t : ByteArray) (i : Nat) : Nat → Nat
  | 0 => 0
  | j + 1 => 64 * gv t i j + dg t (i + j)
/-- All of the first k are letters. -/
def AL (t : ByteArray) (k : Nat) : Prop := ∀ p, p < k → p < t.size → numb (byteAt t p).toNat < 64
theorem AL.dg {t : ByteArray} {k : Nat} (h : AL t k) {p : Nat} (hp : p < k) : dg t p < 64 := by
  rw [Go.Proofs.Ytfmhpeeecejpbaa.dg]; split
  · rename_i h2; exact h p hp h2
  · omega
theorem AL.gv {t : ByteArray} {i j : Nat} (h : AL t (i + j)) (hj : j ≤ 4) : gv t i j < 64 ^ j := by
  induction j with
  | zero => simp [Go.Proofs.Ytfmhpeeecejpbaa.gv]
  | succ j ih =>
    have h1 := ih (fun p hp => h p (by omega)) (by omega)
    have h2 := h.dg (p := i + j) (by omega)
    rw [Go.Proofs.Ytfmhpeeecejpbaa.gv, Nat.pow_succ]
    omega
theorem raw_app : ∀ (s t : List UInt8), s.length % 4 = 0 → raw (s ++ t) = raw s ++ raw t
  | [], _, _ => rfl
  | [_], _, h => by simp at h
  | [_, _], _, h => by simp at h
  | [_, _, _], _, h => by simp at h
  | a :: b :: c :: d :: s, t, h => by
    simp only [List.cons_append, raw]
    rw [raw_app s t (by simp only [List.length_cons] at h; omega)]
/-- Three bytes of four letters. -/
def tre (n : Nat) : List UInt8 := [UInt8.ofNat (n / 65536), UInt8.ofNat (n / 256 % 256), UInt8.ofNat (n % 256)]
theorem raw_step (t : ByteArray) (i m : Nat) (hi4 : i % 4 = 0) (hm : m = min 4 (t.size - i)) (h2 : 2 ≤ m) (hal : AL t (i + 4)) :
    raw (t.data.toList.take (i + 4)) = raw (t.data.toList.take i) ++ (tre (gv t i 4)).take (m - 1) := by
  have hl : (t.data.toList.take i).length = i := by rw [List.length_take, size_data]; omega
  have g0 := hal.dg (p := i) (by omega)
  have g1 := hal.dg (p := i + 1) (by omega)
  have g2 := hal.dg (p := i + 2) (by omega)
  have g3 := hal.dg (p := i + 3) (by omega)
  have c0 : i < t.size := by omega
  have c1 : i + 1 < t.size := by omega
  have e4 : gv t i 4 = 64 * (64 * (64 * (64 * 0 + dg t (i + 0)) + dg t (i + 1)) + dg t (i + 2)) + dg t (i + 3) := rfl
  have d0 : dg t i = numb (byteAt t i).toNat := by rw [dg, if_pos c0]
  have d1 : dg t (i + 1) = numb (byteAt t (i + 1)).toNat := by rw [dg, if_pos c1]
  rw [e4, show i + 0 = i from rfl]
  by_cases c2 : i + 2 < t.size
  · have d2 : dg t (i + 2) = numb (byteAt t (i + 2)).toNat := by rw [dg, if_pos c2]
    by_cases c3 : i + 3 < t.size
    · have d3 : dg t (i + 3) = numb (byteAt t (i + 3)).toNat := by rw [dg, if_pos c3]
      rw [show i + 4 = i + 3 + 1 from rfl, take_snoc t _ c3, show i + 3 = i + 2 + 1 from rfl, take_snoc t _ c2, show i + 2 = i + 1 + 1 from rfl, take_snoc t _ c1, take_snoc t _ c0, List.append_assoc, List.append_assoc, List.append_assoc, raw_app _ _ (by rw [hl]; exact hi4)]
      obtain rfl : m = 4 := by omega
      simp only [List.singleton_append, raw, tre, List.take_succ_cons, List.take_zero]
      rw [show byteAt t (i + 1 + 1) = byteAt t (i + 2) from rfl, show byteAt t (i + 1 + 1 + 1) = byteAt t (i + 3) from rfl, show dg t (i + 1 + 1) = dg t (i + 2) from rfl, show dg t (i + 1 + 1 + 1) = dg t (i + 3) from rfl, ← d0, ← d1, ← d2, ← d3]
      congr 2
      · congr 1; omega
      · congr 1
        · congr 1; omega
        · congr 2; omega
    · have d3 : dg t (i + 3) = 0 := by rw [dg, if_neg c3]
      rw [show t.data.toList.take (i + 4) = t.data.toList.take (i + 2 + 1) from by rw [List.take_of_length_le (by rw [size_data]; omega), List.take_of_length_le (by rw [size_data]; omega)], take_snoc t _ c2, show i + 2 = i + 1 + 1 from rfl, take_snoc t _ c1, take_snoc t _ c0, List.append_assoc, List.append_assoc, raw_app _ _ (by rw [hl]; exact hi4)]
      obtain rfl : m = 3 := by omega
      simp only [List.singleton_append, raw, tre, List.take_succ_cons, List.take_zero]
      rw [show byteAt t (i + 1 + 1) = byteAt t (i + 2) from rfl, show dg t (i + 1 + 1) = dg t (i + 2) from rfl, ← d0, ← d1, ← d2, d3]
      congr 2
      · congr 1; omega
      · congr 2; omega
  · have d2 : dg t (i + 2) = 0 := by rw [dg, if_neg c2]
    have d3 : dg t (i + 3) = 0 := by rw [dg, if_neg (by omega)]
    rw [show t.data.toList.take (i + 4) = t.data.toList.take (i + 1 + 1) from by rw [List.take_of_length_le (by rw [size_data]; omega), List.take_of_length_le (by rw [size_data]; omega)], take_snoc t _ c1, take_snoc t _ c0, List.append_assoc, raw_app _ _ (by rw [hl]; exact hi4)]
    obtain rfl : m = 2 := by omega
    simp only [List.singleton_append, raw, tre, List.take_succ_cons, List.take_zero]
    rw [← d0, ← d1, d2, d3]
    congr 3; omega

theorem not_code {t : ByteArray} (h : t.size % 4 = 1 ∨ 540 < t.size) : isCode t.data.toList = false := by
  rw [Bool.eq_false_iff]
  intro hc
  obtain ⟨s, h1, h2⟩ := isCode_iff.1 hc
  have h3 := code_len s
  rw [h2, size_data] at h3
  omega
theorem not_letter {t : ByteArray} {p : Nat} (hp : p < t.size) (h : ¬ numb (byteAt t p).toNat < 64) : isCode t.data.toList = false := by
  rw [Bool.eq_false_iff]
  intro hc
  exact h (code_letters hc hp)

set_option maxRecDepth 100000 in
set_option maxHeartbeats 1000000 in
theorem rDecode_long (t : ByteArray) (w : World) (h : t.size % 4 = 1 ∨ 540 < t.size) : Calls Try.prog 14 #[.string t] w (DecPost t w) := by
  have HD := Lib.hid (not_code h)
  by_cases h1 : t.size % 4 = 1
  · have hb : ((t.size : Int) % 4 == 1) = true := by simp; omega
    clear h h1
    go_enter Try.func14, Try.ntmps14
    go_wp2
    go_ret2
    exact dec_no HD.out (Below.refl _ _)
  · have hb : ((t.size : Int) % 4 == 1) = false := by simp; omega
    have hb2 : decide ((540 : Int) < (t.size : Int)) = true := by simp; omega
    clear h h1
    go_enter Try.func14, Try.ntmps14
    go_wp2
    go_ret2
    exact dec_no HD.out (Below.refl _ _)
end Go.Proofs.Ytfmhpeeecejpbaa
