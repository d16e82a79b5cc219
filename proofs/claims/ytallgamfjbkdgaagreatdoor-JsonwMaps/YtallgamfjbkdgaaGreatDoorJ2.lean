/- What writes words, and a new line. -/
import Derived.Test.YtallgamfjbkdgaaGreatDoorJ1
import Derived.DefersIn
import Derived.Deep.RegionHeld3
namespace Go.Proofs.YtallgamfjbkdgaaGreatDoor
open Go.RowKit

/-- A function's contract from its body, called or deferred. -/
theorem both_of_wp {P : Program} {f : FuncId} {fn : Func} {c : Code} {args : Array Value} {w : World} {R : Ending → World → Prop} (hf : P.funcs[f]? = some fn) (hb : fn.body = some c)
    (h : c.wp P (bodyPost P fn R) { tmps := args ++ Array.replicate (fn.ntmps - args.size) undef, defers := [] } w) :
    Calls P f args w R ∧ ∀ (n : Nat) (u : FrameMode), CallsDIn Fence.wide n P f args u w fun e u' w' => u' = u ∧ R e w' :=
  ⟨calls_of_wp hf hb h, fun _ _ => callsDIn_of_wp hf hb trivial (wpIn_wide.2 h)⟩
/-- What a writing method leaves. -/
def PutP (w0 : World) (b M : Nat) (L : Lay) (i : Int) (t : ByteArray) (W : World) (o : Ending) (w' : World) : Prop := o = .returned (.tuple #[]) ∧ Wr w0 b M L i t w' ∧ Ok w0 b W w'
/-- .. called or deferred. -/
def Both (f : FuncId) (args : Array Value) (w : World) (R : Ending → World → Prop) : Prop := Calls Tryz.prog f args w R ∧ ∀ (n : Nat) (u : FrameMode), CallsDIn Fence.wide n Tryz.prog f args u w fun e u' w' => u' = u ∧ R e w'
set_option maxRecDepth 100000 in
theorem put1_both {w0 : World} {b M : Nat} {L : Lay} {i : Int} {t : ByteArray} {W : World} (s : ByteArray) (S : Nat) (h : Wr w0 b M L i t W) (hS : Bx W S #[.string s] 9) (hlen : t.size + s.size ≤ 1099511627776) :
    Both 55 #[.pointer (some ⟨b, 0, none⟩), .slice (some ⟨S, 0, none⟩) 1 1] W (PutP w0 b M L i (t ++ s) W) := by
  have H := Lib.hid h
  have c0 := hS.c 0 rfl
  clear h hS
  refine both_of_wp Tryz.func55 rfl ?_
  simp only [Tryz.ntmps55, List.size_toArray, List.length_cons, List.length_nil, Nat.reduceAdd, Nat.reduceSub, Array.replicate_succ, Array.replicate_zero, List.push_toArray, List.append_toArray, List.nil_append, List.cons_append]
  go_wp2
  refine wp_loop_rounds 2 ?_
  rw [rounds_succ]
  go_wp2_with fail
  refine (WriteString_calls s H.out hlen).mono ?_
  rintro e w1 ⟨rfl, h1, hk1⟩
  have H1 := Lib.hid h1
  have HK1 := Lib.hid hk1
  clear h1 hk1 c0
  go_wp2
  rw [rounds_succ]
  go_wp2
  go_end0
  exact ⟨rfl, H1.out, HK1.out⟩
set_option maxRecDepth 100000 in
theorem put2_both {w0 : World} {b M : Nat} {L : Lay} {i : Int} {t : ByteArray} {W : World} (s r : ByteArray) (S : Nat) (h : Wr w0 b M L i t W) (hS : Bx W S #[.string s, .string r] 9) (hne : S ≠ b) (hlen : t.size + s.size + r.size ≤ 1099511627776) :
    Both 55 #[.pointer (some ⟨b, 0, none⟩), .slice (some ⟨S, 0, none⟩) 2 2] W (PutP w0 b M L i (t ++ s ++ r) W) := by
  have H := Lib.hid h
  have HS := Lib.hid hS
  have c0 := hS.c 0 rfl
  clear h hS
  refine both_of_wp Tryz.func55 rfl ?_
  simp only [Tryz.ntmps55, List.size_toArray, List.length_cons, List.length_nil, Nat.reduceAdd, Nat.reduceSub, Array.replicate_succ, Array.replicate_zero, List.push_toArray, List.append_toArray, List.nil_append, List.cons_append]
  go_wp2
  refine wp_loop_rounds 3 ?_
  rw [rounds_succ]
  go_wp2_with fail
  refine (WriteString_calls s H.out (by omega)).mono ?_
  rintro e w1 ⟨rfl, h1, hk1⟩
  have H1 := Lib.hid h1
  have HK1 := Lib.hid hk1
  have c1 := (hk1.bx HS.out hne (by decide)).c 1 rfl
  clear h1 hk1 c0
  go_wp2
  rw [rounds_succ]
  go_wp2_with fail
  refine (WriteString_calls r H1.out (by rw [ByteArray.size_append]; omega)).mono ?_
  rintro e w2 ⟨rfl, h2, hk2⟩
  have H2 := Lib.hid h2
  have HK2 := Lib.hid hk2
  clear h2 hk2 c1
  go_wp2
  rw [rounds_succ]
  go_wp2
  go_end0
  exact ⟨rfl, H2.out, HK1.out.trans HK2.out⟩
end Go.Proofs.YtallgamfjbkdgaaGreatDoor
