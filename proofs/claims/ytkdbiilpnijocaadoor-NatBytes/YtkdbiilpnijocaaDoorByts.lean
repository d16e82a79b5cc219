/- The walk of NatBytes. -/
import Derived.Test.YtkdbiilpnijocaaDoorRf9
import Derived.Test.YtkdbiilpnijocaaDoorTo2
namespace Go.Proofs.YtkdbiilpnijocaaDoor
open Go.RowKit
open Go.Lib (decDigits nDigits)

/-- The table and the error, both. -/
def Tab2 (w : World) : Prop := Tab w ∧ ErrR w
theorem Tab2.below {w w' : World} (h : Tab2 w) (hb : Below w.heap.size w w') : Tab2 w' := ⟨h.1.below hb, h.2.below hb⟩
def Ans2 (f : FuncId) (args : Array Value) (v : Value) : Prop := ∀ w, Tab2 w → Calls Tryd.prog f args w fun e w' => e = .returned v ∧ Below w.heap.size w w'
theorem Ans.two {f : FuncId} {args : Array Value} {v : Value} (h : Ans f args v) : Ans2 f args v := fun w ht => h w ht.1

set_option maxRecDepth 100000 in
set_option maxHeartbeats 1000000 in
theorem byts_walk (a b B c g : ByteArray) (hB : cutN 200 b = B) (e h k : Int) (l : Bool) (n : Nat) (hn : n < 18446744073709551616) (w : World) (htab : Tab2 w)
    (h27 : Ans2 27 #[.string (cutB a)] (.tuple #[.string c, .int .i64 e])) (h28 : Ans2 28 #[.string (cutB a)] (.tuple #[.string c, .int .i64 e]))
    (h29 : Ans2 29 #[.string B] (.tuple #[.string g, .int .i64 h])) (h30 : Ans2 30 #[.string B] (.tuple #[.string g, .int .i64 h]))
    (h31 : Ans2 31 #[.string (cutB a)] (.tuple #[.int .u64 k, .bool l])) (h32 : Ans2 32 #[.string (cutB a)] (.tuple #[.int .u64 k, .bool l])) :
    Calls Tryd.prog 5 #[.string a, .string b, .int .u64 (n : Int)] w fun e w' => e = .returned (.bool true) ∧ Below w.heap.size w w' := by
  have HT := Lib.hid htab
  have H27 := Lib.hid h27
  have H28 := Lib.hid h28
  have H29 := Lib.hid h29
  have H30 := Lib.hid h30
  have H31 := Lib.hid h31
  have H32 := Lib.hid h32
  have hcut : b.extract 0 (min (b.size : Int) 200).toNat = B := (cutN_eq 200 b).trans hB
  clear htab h27 h28 h29 h30 h31 h32 hB
  go_enter Tryd.func5, Tryd.ntmps5
  go_wp2_with (first
    | (go_at_call 11; refine (shown_calls _ HT.out.1).mono ?_; rintro e w1 ⟨rfl, hb1⟩; have HB1 := Lib.hid hb1; have HT1 := Lib.hid (HT.out.below hb1); clear hb1)
    | (go_at_call 12; refine (cut_calls _ _).mono ?_; rintro e w2 ⟨rfl, rfl⟩))
  generalize cutB a = A at *
  refine (H27.out _ HT1.out).mono ?_
  rintro e' w2 ⟨rfl, hb2⟩
  have HB2 := Lib.hid (HB1.out.trans (hb2.mono HB1.out.size)); have HT2 := Lib.hid (HT1.out.below hb2); clear hb2
  cases l
  all_goals go_wp2_with (first
    | (go_at_call 28; refine (H28.out _ HT2.out).mono ?_; rintro e' w3 ⟨rfl, hb3⟩; have HB3 := Lib.hid (HB2.out.trans (hb3.mono HB2.out.size)); have HT3 := Lib.hid (HT2.out.below hb3); clear hb3)
    | (go_at_call 29; refine (H29.out _ HT3.out).mono ?_; rintro e' w4 ⟨rfl, hb4⟩; have HB4 := Lib.hid (HB3.out.trans (hb4.mono HB3.out.size)); have HT4 := Lib.hid (HT3.out.below hb4); clear hb4)
    | (go_at_call 30; refine (H30.out _ HT4.out).mono ?_; rintro e' w5 ⟨rfl, hb5⟩; have HB5 := Lib.hid (HB4.out.trans (hb5.mono HB4.out.size)); have HT5 := Lib.hid (HT4.out.below hb5); clear hb5)
    | (go_at_call 31; refine (H31.out _ HT5.out).mono ?_; rintro e' w6 ⟨rfl, hb6⟩; have HB6 := Lib.hid (HB5.out.trans (hb6.mono HB5.out.size)); have HT6 := Lib.hid (HT5.out.below hb6); clear hb6)
    | (go_at_call 32; refine (H32.out _ HT6.out).mono ?_; rintro e' w7 ⟨rfl, hb7⟩; have HB7 := Lib.hid (HB6.out.trans (hb7.mono HB6.out.size)); have HT7 := Lib.hid (HT6.out.below hb7); clear hb7)
    | (go_at_call 33; refine (Of_ans n hn _ HT7.out.1).mono ?_; rintro e' w8 ⟨rfl, hb8⟩; have HB8 := Lib.hid (HB7.out.trans (hb8.mono HB7.out.size)); have HT8 := Lib.hid (HT7.out.below hb8); clear hb8)
    | (go_at_call 34; refine (rOf_calls n _ hn).mono ?_; rintro e' w9 ⟨rfl, hb9⟩; have HB9 := Lib.hid (HB8.out.trans (hb9.mono HB8.out.size)); clear hb9))
  all_goals go_ret
  all_goals exact ⟨rfl, HB9.out⟩

theorem byts_calls (a b : ByteArray) (n : Nat) (hn : n < 18446744073709551616) (w : World) (htab : Tab w) (herr : ErrR w) :
    Calls Tryd.prog 5 #[.string a, .string b, .int .u64 (n : Int)] w fun e w' => e = .returned (.bool true) ∧ Below w.heap.size w w' := by
  have hsz : (cutN 200 b).size ≤ 1000 := by have := cutN_size 200 b; omega
  have hO : ∃ g : ByteArray, ∃ x : Int, Ans2 29 #[.string (cutN 200 b)] (.tuple #[.string g, .int .i64 x]) ∧ Ans2 30 #[.string (cutN 200 b)] (.tuple #[.string g, .int .i64 x]) := by
    by_cases hz : ∃ c, (cutN 200 b).data.toList.head? = some c ∧ c.toNat = 0
    · obtain ⟨c, hc, h0⟩ := hz
      refine ⟨noB, 10, (OfBytes_zero _ c hc h0).two, fun w _ => ?_⟩
      have hp : 0 < (cutN 200 b).size := by
        cases e : (cutN 200 b).data.toList with
        | nil => rw [e] at hc; cases hc
        | cons d l => rw [Lib.size_eq, e, List.length_cons]; omega
      exact rOfBytes_no _ w hp (by rw [head_byteAt _ c hc]; exact h0)
    · have hh : ∀ c, (cutN 200 b).data.toList.head? = some c → c.toNat ≠ 0 := fun c hc h0 => hz ⟨c, hc, h0⟩
      obtain ⟨g, x, h1, h2⟩ := same_tell (f := 29) (f' := 30) (fun w ht => OfBytes_tell _ (by omega) hh w ht) (fun w _ => by
        cases e : (cutN 200 b).data.toList with
        | nil =>
          have e2 : cutN 200 b = ⟨#[]⟩ := str_inj (by rw [e])
          rw [e2]
          exact rOfBytes_empty w
        | cons c l =>
          have hp : 0 < (cutN 200 b).size := by rw [Lib.size_eq, e, List.length_cons]; omega
          rw [← e]
          exact rOfBytes_some _ w hp (by omega) (by rw [head_byteAt _ c (by rw [e]; rfl)]; exact hh c (by rw [e]; rfl)))
      exact ⟨g, x, h1.two, h2.two⟩
  obtain ⟨g, x, o1, o2⟩ := hO
  have hcs : (cutB a).size ≤ 1000 := by rw [cutB, ByteArray.size_extract]; omega
  cases ha : isNat (cutB a).data.toList with
  | false =>
    exact byts_walk a b _ noB g rfl 10 x 0 false n hn w ⟨htab, herr⟩ (Bytes_nil _ ha).two (fun w _ => rBytes_no _ w ha) o1 o2 (fun w _ => To_no _ w ha) (fun w _ => rTo_no _ w ha)
  | true =>
    have hb2 : Ans2 28 #[.string (cutB a)] (.tuple #[.string (bytB (dv (cutB a).data.toList)), .int .i64 0]) := fun w _ => by
      have h := rBytes_yes (dv (cutB a).data.toList) w (dv_lim ha)
      rw [decB_dv ha] at h
      exact h
    rcases Nat.lt_or_ge (dv (cutB a).data.toList) 18446744073709551616 with h | h
    · exact byts_walk a b _ _ g rfl 0 x _ true n hn w ⟨htab, herr⟩ (Bytes_ans _ ha).two hb2 o1 o2 (fun w _ => To_yes _ w ha hcs h) (fun w _ => rTo_yes _ w ha h)
    · exact byts_walk a b _ _ g rfl 0 x 0 false n hn w ⟨htab, herr⟩ (Bytes_ans _ ha).two hb2 o1 o2 (fun w ht => To_big _ w ha hcs h ht.2) (fun w _ => rTo_big _ w ha h)
end Go.Proofs.YtkdbiilpnijocaaDoor
