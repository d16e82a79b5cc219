/- The walk of NatTurns. -/
import Derived.Test.YtkdbiilpnijocaaDoorOrd
import Derived.Test.YtkdbiilpnijocaaDoorMul
namespace Go.Proofs.YtkdbiilpnijocaaDoor
open Go.RowKit
open Go.Lib (decDigits)

/-- A call that answers so in every world that holds the table, and keeps what was there. -/
def Ans (f : FuncId) (args : Array Value) (v : Value) : Prop := ∀ w, Tab w → Calls Tryd.prog f args w fun e w' => e = .returned v ∧ Below w.heap.size w w'

def decB (n : Nat) : ByteArray := ⟨(decDigits n).toArray⟩
theorem decB_data (n : Nat) : (decB n).data.toList = decDigits n := by simp [decB]
theorem isNat_decB {n : Nat} (h : n < lim) : isNat (decB n).data.toList = true := by rw [decB_data]; exact isNat_dec h
theorem dv_decB (n : Nat) : dv (decB n).data.toList = n := by rw [decB_data, dv_dec]
theorem decB_dv {A : ByteArray} (h : isNat A.data.toList = true) : decB (dv A.data.toList) = A := str_inj (by rw [decB_data, dec_dv h])
def noB : ByteArray := ⟨#[]⟩
theorem isNat_noB : isNat noB.data.toList = false := by decide
theorem small_lim {n : Nat} (h : n < 18446744073709551616) : n < lim := lt_lim (k := 20) (by omega) (by omega) (by omega)

theorem ans_tell {f : FuncId} {args : Array Value} {n : Nat} (h : ∀ w, Tab w → Calls Tryd.prog f args w (TellPost n w)) : (n < lim ∧ Ans f args (.tuple #[.string (decB n), .int .i64 0])) ∨ (lim ≤ n ∧ Ans f args (.tuple #[.string noB, .int .i64 11])) := by
  by_cases hn : n < lim
  · exact .inl ⟨hn, fun w ht => (h w ht).mono fun e w' ⟨h1, h2⟩ => ⟨by rw [h1, outS_lim hn, outE_lim hn]; rfl, h2⟩⟩
  · exact .inr ⟨by omega, fun w ht => (h w ht).mono fun e w' ⟨h1, h2⟩ => ⟨by rw [h1, outS_long hn, outE_long hn]; rfl, h2⟩⟩

theorem Of_ans (n : Nat) (hn : n < 18446744073709551616) : Ans 33 #[.int .u64 (n : Int)] (.string (decB n)) := fun w ht => Of_calls n w hn ht

set_option maxRecDepth 100000 in
set_option maxHeartbeats 1000000 in
theorem turns_walk (a b c d g i : ByteArray) (e f h j r : Int) (by_ : Nat) (hby : by_ < 4294967296) (w : World) (htab : Tab w)
    (hAdd : Ans 15 #[.string (cutB a), .string (cutB b)] (.tuple #[.string c, .int .i64 e]))
    (hSub : Ans 17 #[.string c, .string (cutB b)] (.tuple #[.string d, .int .i64 f]))
    (hMul : Ans 21 #[.string (cutB a), .string (decB by_)] (.tuple #[.string g, .int .i64 h]))
    (hDiv : Ans 23 #[.string g, .int .u32 (by_ : Int)] (.tuple #[.string i, .int .u32 r, .int .i64 j]))
    (h1 : e ≠ 0 ∨ (e = 0 ∧ f = 0 ∧ d = cutB a)) (h2 : h ≠ 0 ∨ (h = 0 ∧ by_ = 0) ∨ (h = 0 ∧ by_ ≠ 0 ∧ j = 0 ∧ i = cutB a ∧ r = 0)) :
    Calls Tryd.prog 6 #[.string a, .string b, .int .u32 (by_ : Int)] w fun e w' => e = .returned (.bool true) ∧ Below w.heap.size w w' := by
  have HT := Lib.hid htab
  have HAdd := Lib.hid hAdd
  have HSub := Lib.hid hSub
  have HMul := Lib.hid hMul
  have HDiv := Lib.hid hDiv
  have H1 := Lib.hid h1
  have H2 := Lib.hid h2
  clear htab hAdd hSub hMul hDiv h1 h2
  go_enter Tryd.func6, Tryd.ntmps6
  go_wp2_with (first
    | (go_at_call 11; refine (shown_calls _ HT.out).mono ?_; rintro e w1 ⟨rfl, hb1⟩; have HB1 := Lib.hid hb1; have HT1 := Lib.hid (HT.out.below hb1); clear hb1)
    | (go_at_call 12; refine (cut_calls _ _).mono ?_; rintro e w2 ⟨rfl, rfl⟩))
  generalize cutB a = A at *
  generalize cutB b = B at *
  refine (HAdd.out _ HT1.out).mono ?_
  rintro e' w2 ⟨rfl, hb2⟩
  have HB2 := Lib.hid (HB1.out.trans (hb2.mono HB1.out.size)); have HT2 := Lib.hid (HT1.out.below hb2); clear hb2
  go_wp2_with (first
    | (go_at_call 17; refine (HSub.out _ HT2.out).mono ?_; rintro e' w3 ⟨rfl, hb3⟩; have HB3 := Lib.hid (HB2.out.trans (hb3.mono HB2.out.size)); have HT3 := Lib.hid (HT2.out.below hb3); clear hb3)
    | (go_at_call 33; refine (Of_ans by_ (by omega) _ HT3.out).mono ?_; rintro e' w4 ⟨rfl, hb4⟩; have HB4 := Lib.hid (HB3.out.trans (hb4.mono HB3.out.size)); have HT4 := Lib.hid (HT3.out.below hb4); clear hb4)
    | (go_at_call 21; refine (HMul.out _ HT4.out).mono ?_; rintro e' w5 ⟨rfl, hb5⟩; have HB5 := Lib.hid (HB4.out.trans (hb5.mono HB4.out.size)); have HT5 := Lib.hid (HT4.out.below hb5); clear hb5))
  refine (HDiv.out _ HT5.out).mono ?_
  rintro e' w6 ⟨rfl, hb6⟩
  have HB6 := Lib.hid (HB5.out.trans (hb6.mono HB5.out.size)); clear hb6
  rcases H1.out with h1 | ⟨rfl, rfl, rfl⟩ <;> rcases H2.out with h2 | ⟨rfl, rfl⟩ | ⟨rfl, h3, rfl, rfl, rfl⟩
  all_goals clear H1 H2
  all_goals go_wp2
  all_goals go_ret
  all_goals exact ⟨rfl, HB6.out⟩
end Go.Proofs.YtkdbiilpnijocaaDoor
