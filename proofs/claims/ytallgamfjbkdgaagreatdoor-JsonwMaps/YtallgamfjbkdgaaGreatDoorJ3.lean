/- What begins a new line. -/
import Derived.Test.YtallgamfjbkdgaaGreatDoorJ2
import Derived.Test.YtallgamfjbkdgaaGreatDoorMe
namespace Go.Proofs.YtallgamfjbkdgaaGreatDoor
open Go.RowKit

/-- So often. -/
def repS (s : ByteArray) (n : Nat) : ByteArray := ⟨(Lib.repeatL s.data.toList n).toArray⟩
/-- A line's end, and what stands ahead of what is on the next one. -/
def nlB (L : Lay) (n : Nat) : ByteArray := L.e ++ repS L.d n
theorem rep_calls (s : ByteArray) (n : Nat) (w : World) (hn : n ≤ 100000) (hs : s.size ≤ 100000) : Calls Tryz.prog 110 #[.string s, .int .i64 (n : Int)] w fun o w' => o = .returned (.string (repS s n)) ∧ Below w.heap.size w w' :=
  Tryz.strings_Repeat s n w (by omega) (by have := Nat.mul_le_mul hs hn; omega)
theorem Wp.seven {w0 : World} {b : Nat} {p v : Value} {L : Lay} {i : Int} {m : Value} {t : ByteArray} {W : World} (h : Wp w0 b p v L i m t W) :
    W.cell? ⟨b, 0, none⟩ = some p ∧ W.cell? ⟨b, 1, none⟩ = some v ∧ W.cell? ⟨b, 2, none⟩ = some (.string L.e) ∧ W.cell? ⟨b, 3, none⟩ = some (.string L.d) ∧ W.cell? ⟨b, 4, none⟩ = some (.string L.k) ∧ W.cell? ⟨b, 5, none⟩ = some (.int .i64 i) ∧ W.cell? ⟨b, 6, none⟩ = some m :=
  ⟨h.bx.c 0 rfl, h.bx.c 1 rfl, h.bx.c 2 rfl, h.bx.c 3 rfl, h.bx.c 4 rfl, h.bx.c 5 rfl, h.bx.c 6 rfl⟩
theorem Wr.held {w0 : World} {b M : Nat} {L : Lay} {i : Int} {t : ByteArray} {W : World} (h : Wr w0 b M L i t W) :
    W.cell? ⟨b, 2, none⟩ = some (.string L.e) ∧ W.cell? ⟨b, 3, none⟩ = some (.string L.d) ∧ W.cell? ⟨b, 4, none⟩ = some (.string L.k) ∧ W.cell? ⟨b, 5, none⟩ = some (.int .i64 i) ∧ W.cell? ⟨b, 6, none⟩ = some (.map (some M)) := by
  obtain ⟨_, p, v, _, h2⟩ := h
  obtain ⟨_, _, h⟩ := h2.seven
  exact h
theorem Wr.f {w0 : World} {b M : Nat} {L : Lay} {i : Int} {t : ByteArray} {W : World} (h : Wr w0 b M L i t W) (j : Nat) : W.frozen? ⟨b, j, none⟩ = false := by
  obtain ⟨_, p, v, _, h2⟩ := h
  exact h2.bx.f j
theorem Wr.drew {w0 : World} {b M : Nat} {L : Lay} {i : Int} {t : ByteArray} {W : World} (h : Wr w0 b M L i t W) : Wr w0 b M L i t W.drew := h.below (Below.refl _ _).drew
theorem Wr.alloc {w0 : World} {b M : Nat} {L : Lay} {i : Int} {t : ByteArray} {W : World} (h : Wr w0 b M L i t W) (o : Obj) : Wr w0 b M L i t (W.alloc o) := h.below ((Below.refl _ _).alloc (Nat.le_refl _) o)
/-- Within more lists, or fewer. -/
theorem Wr.within {w0 : World} {b M : Nat} {L : Lay} {i : Int} {t : ByteArray} {W : World} (h : Wr w0 b M L i t W) (n : Int) : Wr w0 b M L n t (W.setCell ⟨b, 5, none⟩ (.int .i64 n)) := by
  obtain ⟨hM, p, v, hp, h⟩ := h
  have hne : M ≠ b := fun e => by subst e; have := h.bx; rw [Bx, hM] at this; cases this
  refine ⟨(Below.heap_setCell _ ⟨b, 5, none⟩ _ M hne).trans hM, p, v, hp, ⟨h.hb, h.hw.setCell (p := ⟨b, 5, none⟩) h.hb _, h.bx.set 5 _, ?_⟩⟩
  refine h.own.kept (row := some b) ⟨rfl, rfl, rfl, by simp [World.setCell], fun k _ hk => Below.heap_setCell _ _ _ _ (fun e => hk (by simp [e]))⟩ ?_
  exact .inr fun e => (h.row_ne e).1 rfl
set_option maxRecDepth 100000 in
set_option maxHeartbeats 1000000 in
theorem newLine_both {w0 : World} {b M : Nat} {L : Lay} {i : Int} {t : ByteArray} {W : World} (m : Int) (n : Nat) (h : Wr w0 b M L i t W) (hm : wrap64 (i + m) = (n : Int)) (hn : n ≤ 100000) (hd : L.d.size ≤ 100000) (hlen : t.size + (nlB L n).size ≤ 1099511627776) :
    Both 91 #[.pointer (some ⟨b, 0, none⟩), .int .i64 m] W (PutP w0 b M L n (t ++ nlB L n) W) := by
  have H := Lib.hid h
  obtain ⟨x2, x3, x4, x5, x6⟩ := h.held
  have f5 := h.f 5
  have hlt := h.lt
  have HD := Lib.hid hd
  have HL : Hid (t.size + L.e.size + (repS L.d n).size ≤ 1099511627776) := Lib.hid (by rw [nlB, ByteArray.size_append] at hlen; omega)
  clear h x6 hd hlen
  refine both_of_wp Tryz.func91 rfl ?_
  simp only [Tryz.ntmps91, List.size_toArray, List.length_cons, List.length_nil, Nat.reduceAdd, Nat.reduceSub, Array.replicate_succ, Array.replicate_zero, List.push_toArray, List.append_toArray, List.nil_append, List.cons_append]
  go_wp2_with fail
  obtain ⟨W1, hW1⟩ : ∃ W1, W1 = W.setCell ⟨b, 5, none⟩ (.int .i64 (n : Int)) := ⟨_, rfl⟩
  have H1 : Hid (Wr w0 b M L n t W1) := Lib.hid (by rw [hW1]; exact H.out.within _)
  have HK : Hid (Ok w0 b W W1) := Lib.hid (by rw [hW1]; exact Ok.refl.set H.out.hb 5 _)
  first | rw [← hW1] | skip
  clear hW1 x2 x3 x4 x5 f5
  obtain ⟨x2, x3, x4, x5, x6⟩ := H1.out.held
  have hlt1 := H1.out.lt
  clear x4 x6
  go_region_held3 (fun w' => w'.cell? ⟨b, 2, none⟩ = some (.string L.e) ∧ w'.cell? ⟨b, 3, none⟩ = some (.string L.d) ∧ w'.cell? ⟨b, 5, none⟩ = some (.int .i64 (n : Int)))
    (first
      | exact ⟨x2, x3, x5⟩
      | exact ⟨(H1.out.drew.below hbr).held.1, (H1.out.drew.below hbr).held.2.1, (H1.out.drew.below hbr).held.2.2.2.1⟩
      | exact ⟨((H1.out.drew.below hbr).alloc _).held.1, ((H1.out.drew.below hbr).alloc _).held.2.1, ((H1.out.drew.below hbr).alloc _).held.2.2.2.1⟩
      | exact ⟨hp1.held.1, hp1.held.2.1, hp1.held.2.2.2.1⟩)
    (first
      | (go_at_call 110; refine (rep_calls L.d n _ hn HD.out).mono ?_; rintro o wr ⟨rfl, hbr⟩)
      | (go_at_call 55; refine ((put2_both L.e (repS L.d n) _ ((H1.out.drew.below hbr).alloc _) (Bx.new _ _ _) (by have := (H1.out.drew.below hbr).lt; omega) HL.out).1).mono ?_; rintro o wp ⟨rfl, hp1, hk1⟩))
  all_goals
    go_end0
    have hk2 : Ok w0 b W1 wr := (Ok.refl (W := W1)).drew.trans (Ok.of_below hbr H1.out.drew.base)
    refine ⟨rfl, by rw [nlB, ← ByteArray.append_assoc]; exact hp1, (HK.out.trans (hk2.alloc (H1.out.drew.below hbr).base _)).trans hk1⟩
end Go.Proofs.YtallgamfjbkdgaaGreatDoor
