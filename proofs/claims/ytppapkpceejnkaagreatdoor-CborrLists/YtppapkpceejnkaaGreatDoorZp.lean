/- The program's own: an item, whatever it is. The program's own: newReader, Item. The program's own: Read, of what document answers. -/
import Derived.Test.YtppapkpceejnkaaGreatDoorZo
import Derived.Test.YtppapkpceejnkaaGreatDoorZl
import Derived.Test.YtppapkpceejnkaaGreatDoorZn
namespace Go.Proofs.YtppapkpceejnkaaGreatDoor
open Go.RowKit

/-- What a part reads, told its head. -/
def partR (d j k a : Nat) (r : List UInt8) : Res (Hd × Fo) :=
  if j = 0 then .ok ((numH false a, .nil), r)
  else if j = 1 then .ok ((numH true (a + 1), .nil), r)
  else if j = 2 ∨ j = 3 then (if k = 31 then chR j r else strR j a r)
  else if j = 4 then listR 7 false k a (itC (d + 1)) r
  else if j = 5 then listR 8 true k a (itC (d + 1)) r
  else if j = 6 then tagR a (itC (d + 1)) r
  else match othH k a with
    | none => .error 110
    | some h => .ok ((h, .nil), r)
theorem item_def (d : Nat) (l : List UInt8) : itC d l = if 16 < d ∧ l ≠ [] then .error 60 else
    match rdL l with
    | .error e => .error (hE e)
    | .ok (j, k, a, r) => if k = 31 ∧ (j < 2 ∨ j = 6) then .error 110 else partR d j k a r := by
  rw [itC, itemL_def]
  cases hr : rdL l with
  | error e => rfl
  | ok y =>
    obtain ⟨j, k, a, r⟩ := y
    simp only
    unfold partR
    rw [listL_ls (d + 1) _ _ _ _ _ (Nat.lt_succ_self _), listL_ls (d + 1) _ _ _ _ _ (Nat.lt_succ_self _)]
    rfl
theorem part_bad {d j k a : Nat} {r : List UInt8} (hj : j < 8) (h : begB j k a = false) : (if k = 31 ∧ (j < 2 ∨ j = 6) then .error 110 else partR d j k a r : Res (Hd × Fo)) = .error 110 := by
  unfold begB at h
  by_cases h7 : j = 7
  · subst h7
    rw [if_neg (by omega)]
    rw [if_pos rfl] at h
    have ho : othH k a = none := by
      unfold othH
      rw [if_pos]
      split at h
      · rename_i h1
        first
          | exact .inr h1
          | exact .inl h1
      · have : k = 31 := by simpa using h
        first
          | exact .inl this
          | exact .inr this
    show (match othH k a with | none => _ | some h => _ : Res (Hd × Fo)) = _
    rw [ho]
  · rw [if_neg h7] at h
    split at h
    · rename_i h1
      have : k = 31 := by simpa using h
      rw [if_pos ⟨this, by omega⟩]
    · cases h
theorem part_good {d j k a : Nat} {r : List UInt8} (hj : j < 8) (h : begB j k a = true) : (if k = 31 ∧ (j < 2 ∨ j = 6) then .error 110 else partR d j k a r : Res (Hd × Fo)) = partR d j k a r ∧ (j = 7 → othH k a ≠ none) := by
  unfold begB at h
  constructor
  · rw [if_neg]
    rintro ⟨h1, h2⟩
    subst h1
    rw [if_neg (by omega), if_pos (by omega)] at h
    cases h
  · rintro rfl
    rw [if_pos rfl] at h
    split at h
    · cases h
    · rename_i h1
      have h2 : k ≠ 31 := by simpa using h
      unfold othH
      rw [if_neg (by rintro (h3 | h3) <;> first | exact h2 h3 | exact h1 h3)]
      split
      · simp
      · split
        · simp
        · split
          · simp
          · simp
section
variable {w0 : World} {b : Nat}
theorem part_calls (hT : Tc w0) {wn j k a : Nat} {r : List UInt8} (hj : j < 8) (ha : a < 18446744073709551616) (hl : r.length < 1000000) (ho : j = 7 → othH k a ≠ none)
    (ih : ∀ l' W', Rd w0 b l' wn W' → l'.length ≤ r.length → Calls Tryz.prog 36 #[.pointer (some ⟨b, 0, none⟩)] W' (AnsP w0 b wn W' (itC (wn + 1) l'))) {V : World} (h : Rd w0 b r wn V) :
    Calls Tryz.prog (partN j) #[.pointer (some ⟨b, 0, none⟩), hdV (j : Int) (k : Int) (a : Int)] V (AnsP w0 b wn V (partR wn j k a r)) := by
  have hs : ∀ j, j = 2 ∨ j = 3 → ∀ V, Rd w0 b r wn V → Calls Tryz.prog 102 #[.pointer (some ⟨b, 0, none⟩), .int .i64 (kindS j), hdV (j : Int) (k : Int) (a : Int)] V (AnsP w0 b wn V (if k = 31 then chR j r else strR j a r)) := by
    intro j hj V hV
    by_cases hk : k = 31
    · subst hk
      rw [if_pos rfl]
      exact joined_open j a hj ha hT hl hV
    · rw [if_neg hk]
      exact joined_def j k a hk ha hl hV
  have h8 : j = 0 ∨ j = 1 ∨ j = 2 ∨ j = 3 ∨ j = 4 ∨ j = 5 ∨ j = 6 ∨ j = 7 := by omega
  rcases h8 with rfl | rfl | rfl | rfl | rfl | rfl | rfl | rfl
  · exact number_plus a k ha hT h
  · exact number_minus a k ha hT h
  · exact str_part _ 2 k a (.inl ⟨rfl, rfl⟩) (fun l => if k = 31 then chR 2 l else strR 2 a l) h (Lib.hid (hs 2 (.inl rfl)))
  · exact str_part _ 3 k a (.inr ⟨rfl, rfl⟩) (fun l => if k = 31 then chR 3 l else strR 3 a l) h (Lib.hid (hs 3 (.inr rfl)))
  · exact array_calls k a ha _ (itemL_eats _) hl h ih
  · exact members_calls k a ha _ (itemL_eats _) hl h ih
  · exact tag_calls k a ha _ h (fun W' hr => ih r W' hr (Nat.le_refl _))
  · cases hx : othH k a with
    | none => exact absurd hx (ho rfl)
    | some x =>
      have := other_calls k a ha h hx
      show Calls _ _ _ _ (AnsP w0 b wn V (match othH k a with | none => _ | some h => _))
      rw [hx]
      exact this
theorem item_calls (hT : Tc w0) : ∀ (n : Nat) (l : List UInt8) (wn : Nat) (W : World), l.length < n → wn ≤ 16 → l.length < 1000000 → Rd w0 b l wn W →
    Calls Tryz.prog 36 #[.pointer (some ⟨b, 0, none⟩)] W (AnsP w0 b wn W (itC (wn + 1) l))
  | 0, _, _, _, h, _, _, _ => by omega
  | n + 1, l, wn, W, hn, hw, hl, h => by
    rw [item_def]
    by_cases h16 : 16 < wn + 1 ∧ l ≠ []
    · rw [if_pos h16]
      obtain rfl : wn = 16 := by omega
      exact item_deep h16.2 h
    · rw [if_neg h16]
      have hd : wn ≠ 16 ∨ l = [] := by
        by_cases he : l = []
        · exact .inr he
        · exact .inl (fun e => h16 ⟨by omega, he⟩)
      cases hr : rdL l with
      | error e => exact item_err e hT hd hr h
      | ok y =>
        obtain ⟨j, k, a, r⟩ := y
        have hrl := rdL_lt hr
        have hlr := rdL_len hr
        have hd16 : wn < 16 := by
          rcases hd with h1 | rfl
          · omega
          · cases hr
        simp only
        cases hb : begB j k a with
        | false =>
          rw [part_bad hrl.1 hb]
          exact item_bad j k a r hT hd16 hr hb h
        | true =>
          obtain ⟨h1, h2⟩ := part_good (d := wn + 1) (r := r) hrl.1 hb
          rw [h1]
          exact item_ok j k a r _ hT hd16 hr hb h (fun V hV => part_calls hT hrl.1 hrl.2.2.1 (by omega) h2 (fun l' W' hr' hle => item_calls hT n l' (wn + 1) W' (by omega) (by omega) (by omega) hr') hV)
end
end Go.Proofs.YtppapkpceejnkaaGreatDoor
namespace Go.Proofs.YtppapkpceejnkaaGreatDoor
open Go.RowKit

section
variable {w0 W : World} {b wn : Nat} {l : List UInt8}
set_option maxRecDepth 100000 in
theorem reader_calls (l : List UInt8) (W : World) : Calls Tryz.prog 35 #[.string ⟨l.toArray⟩] W fun o W' => o = .returned (.pointer (some ⟨W.heap.size, 0, none⟩)) ∧ Rd W W.heap.size l 0 W' := by
  go_enter Tryz.func35, Tryz.ntmps35
  go_wp2_with fail
  go_ret
  exact ⟨rfl, Nat.le_refl _, below_a (Below.refl _ _) _, Bx.new W _ _⟩
/-- What Item answers. -/
def ItemP (W : World) (l : List UInt8) (R : Res (Hd × Fo)) (o : Ending) (W' : World) : Prop := Below W.heap.size W W' ∧ match R with
  | .ok ((h, k), r) => ∃ v, o = .returned (.tuple #[.agg (h.cells v), .string ⟨r.toArray⟩, .int .i64 0]) ∧ Kd (fun B => W.heap.size ≤ B) W' v k ∧ h.u < 18446744073709551616
  | .error e => o = .returned (.tuple #[.agg (zH.cells (.slice none 0 0)), .string ⟨l.toArray⟩, .int .i64 (e : Int)])
set_option maxRecDepth 100000 in
set_option maxHeartbeats 2000000 in
theorem Item_calls (l : List UInt8) (hl : l.length < 1000000) (W : World) (hT : Tc W) : Calls Tryz.prog 18 #[.string ⟨l.toArray⟩] W (ItemP W l (itC 1 l)) := by
  have HT := Lib.hid hT
  obtain ⟨R, hR⟩ : ∃ R, R = itC 1 l := ⟨_, rfl⟩
  rw [← hR]
  have HRR := Lib.hid hR
  clear hT hR
  go_enter Tryz.func18, Tryz.ntmps18
  go_wp2_with fail
  refine (reader_calls l _).mono ?_
  rintro o w2 ⟨rfl, hr2⟩
  rw [World.size_alloc] at hr2
  have HR2 := Lib.hid hr2
  clear hr2
  simp only [World.size_alloc]
  go_wp2_with fail
  refine (item_calls (w0 := W.alloc (.cells (zH.cells (.slice none 0 0)) 28)) (HT.out.below (below_a (Below.refl _ _) _)) _ l 0 w2 (Nat.lt_succ_self _) (by omega) hl HR2.out).mono ?_
  rintro o w3 ⟨hg3, hm⟩
  rw [show 0 + 1 = 1 from rfl, ← HRR.out] at hm
  clear HRR
  cases R with
  | error e =>
    obtain ⟨rfl, r, hr⟩ := hm
    have HR := Lib.hid hr
    have HB3 := Lib.hid (below_nx (below_a (Below.refl W.heap.size W) (.cells (zH.cells (.slice none 0 0)) 28)) hr.hw)
    have HX := Lib.hid (show Nx w3 W.heap.size zH (.slice none 0 0) from (Bx.new W (zH.cells (.slice none 0 0)) 28).below hr.hw)
    clear hg3 hr
    simp only [zH, Hd.cells, Int.cast_ofNat_Int]
    go_wp2_with fail
    obtain ⟨w4, hw4⟩ : ∃ w4, w4 = (w3.alloc (.cells (zH.cells (.slice none 0 0)) 28)).alloc (.cells #[.int .i64 0] 61) := ⟨_, rfl⟩
    have hb4 : Below w3.heap.size w3 w4 := by rw [hw4]; exact below_a (below_a (Below.refl _ _) _) _
    have ht4 : w4.cell? ⟨w3.heap.size + 1, 0, none⟩ = some (.int .i64 0) := by rw [hw4]; exact (Bx.new1 w3 _ _ _).c 0 rfl
    have hf4 : w4.frozen? ⟨w3.heap.size + 1, 0, none⟩ = false := by rw [hw4]; exact Bx.f (Bx.new1 w3 _ #[.int .i64 0] _) 0
    have hl4 : w3.heap.size + 1 < w4.heap.size := by rw [hw4]; simp
    simp only [zH, Hd.cells, Int.cast_ofNat_Int] at hw4
    rw [← hw4]
    clear hw4
    have hs3 := HX.out.lt
    refine (as_hit ⟨w3.heap.size + 1, 0, none⟩ e (.int .i64 0) w4 (HT.out.below (below_nx HB3.out hb4)).2.2 ht4 hf4).mono ?_
    rintro o w5 ⟨rfl, hw5⟩
    have hb45 : Below w4.heap.size w4 (asW ⟨w3.heap.size + 1, 0, none⟩ (e : Int) w4) := below_a (below_a (below_a (below_a (Below.refl _ _) _) _) _) _
    have HX5 := Lib.hid (show Nx w5 W.heap.size zH (.slice none 0 0) from by
      rw [hw5]
      exact nx_setc ((HX.out.below hb4).below hb45) (by omega))
    have HB5 := Lib.hid (show Below W.heap.size W w5 from by
      rw [hw5]
      exact Below.setCell (below_nx (below_nx HB3.out hb4) hb45) (show W.heap.size ≤ w3.heap.size + 1 by omega) _)
    have ht5 : w5.cell? ⟨w3.heap.size + 1, 0, none⟩ = some (.int .i64 (e : Int)) := by
      rw [hw5]
      have h0 : (asW ⟨w3.heap.size + 1, 0, none⟩ (e : Int) w4).heap[w3.heap.size + 1]? = w4.heap[w3.heap.size + 1]? := hb45.block _ hl4
      exact World.cell?_setCell_same (h := (cell_of_block h0).trans ht4) ..
    clear hw5 hb45 ht4 hf4 hb4 hl4
    obtain ⟨p0, p1, p2, p3, p4, p5, p6, p7, p8⟩ := HX5.out.nine
    obtain ⟨x0, x1, x2, x3, x4, x5, x6, x7, x8⟩ := nx_f HX5.out
    have hs5 := HX5.out.lt
    go_wp2_with fail
    go_region
    go_wp2
    obtain ⟨W5, hW5⟩ : ∃ W5, W5 = (setN w5 W.heap.size zH (.slice none 0 0)).drew := ⟨_, rfl⟩
    have hX6 : Nx W5 W.heap.size zH (.slice none 0 0) := by rw [hW5]; exact (Nx.setN HX5.out _ _).drew
    have hB6 : Below W.heap.size W W5 := by rw [hW5]; exact (Below.grown HB5.out (gr_setN _ _ _ _) HB5.out.size (fun k e => by cases e; exact Nat.le_refl _)).drew
    simp only [setN, zH, Int.cast_ofNat_Int] at hW5
    rw [← hW5]
    clear hW5
    refine bodyPost_ret (res_ctt Tryz.results18 _ _ W.heap.size _ _ _ rfl rfl rfl (ldNd hX6)) rfl ?_
    exact ⟨hB6, rfl⟩
  | ok y =>
    obtain ⟨⟨h', k'⟩, r⟩ := y
    obtain ⟨v', rfl, hr, hk', hu'⟩ := hm
    obtain ⟨A', c', rfl, _, _, _⟩ := hk'.form
    have HR := Lib.hid hr
    have HKd := Lib.hid hk'
    have HB3 := Lib.hid (below_nx (below_a (Below.refl W.heap.size W) (.cells (zH.cells (.slice none 0 0)) 28)) hr.hw)
    have HX := Lib.hid (show Nx w3 W.heap.size zH (.slice none 0 0) from (Bx.new W (zH.cells (.slice none 0 0)) 28).below hr.hw)
    clear hg3 hr hk'
    simp only [Hd.cells]
    go_wp2_with fail
    refine (as_nil _ _).mono ?_
    rintro o w4 ⟨rfl, rfl⟩
    have hs3 := HX.out.lt
    obtain ⟨p0, p1, p2, p3, p4, p5, p6, p7, p8⟩ := HX.out.nine
    obtain ⟨x0, x1, x2, x3, x4, x5, x6, x7, x8⟩ := nx_f HX.out
    go_wp2_with fail
    have c0 := HR.out.c0
    have hl0 := HR.out.lt
    go_region
    go_wp2
    obtain ⟨W4, hW4⟩ : ∃ W4, W4 = setN w3 W.heap.size h' (.slice A' k'.len c') := ⟨_, rfl⟩
    have hX4 : Nx W4 W.heap.size h' (.slice A' k'.len c') := by rw [hW4]; exact Nx.setN HX.out _ _
    have hB4 : Below W.heap.size W W4 := by rw [hW4]; exact Below.grown HB3.out (gr_setN _ _ _ _) HB3.out.size (fun k e => by cases e; exact Nat.le_refl _)
    have hK4 : Kd (fun B => W.heap.size + 1 ≤ B) W4 (.slice A' k'.len c') k' := by
      rw [hW4]
      exact (HKd.out.mono (Q := fun B => W.heap.size + 1 ≤ B) fun B h1 _ => by have := HR2.out.lt; omega).kept (by rw [size_setN]; exact Nat.le_refl _) (fun B h1 h2 => setN_other (by omega))
    obtain ⟨W5, hW5⟩ : ∃ W5, W5 = ((W4.alloc (.cells (h'.cells (.slice A' k'.len c')) 28)).alloc (.cells #[.int .i64 0] 61)).drew := ⟨_, rfl⟩
    have hb5 : Below W4.heap.size W4 W5 := by rw [hW5]; exact (below_a (below_a (Below.refl _ _) _) _).drew
    simp only [Hd.cells] at hW5
    simp only [setN] at hW4
    rw [hW4] at hW5
    rw [← hW5]
    clear hW5 hW4
    refine bodyPost_ret (res_ctt Tryz.results18 _ _ W.heap.size _ _ _ rfl rfl rfl (ldNd (hX4.below hb5))) rfl ?_
    exact ⟨below_nx hB4 hb5, _, rfl, (hK4.below hb5).mono fun B h1 _ => by omega, hu'⟩
end
end Go.Proofs.YtppapkpceejnkaaGreatDoor
namespace Go.Proofs.YtppapkpceejnkaaGreatDoor
open Go.RowKit

/-- What a document is, its item read. -/
def docS (h : Hd) (k : Fo) (r : List UInt8) : Except Nat (Hd × Fo) := if r ≠ [] then .error 110 else if chk 2 h k = 0 then .ok (h, k) else .error (chk 2 h k).toNat
/-- What a document is. -/
def docR (l : List UInt8) : Except Nat (Hd × Fo) := if 4000 < l.length then .error 81 else match itC 1 l with
  | .error e => .error e
  | .ok ((h, k), r) => docS h k r
def DocP (W : World) (R : Except Nat (Hd × Fo)) (o : Ending) (W' : World) : Prop := Below W.heap.size W W' ∧ match R with
  | .ok (h, k) => ∃ v, o = .returned (.tuple #[.agg (h.cells v), .nilIface]) ∧ Kd (fun B => W.heap.size ≤ B) W' v k ∧ h.u < 18446744073709551616
  | .error e => o = .returned (.tuple #[.agg (zH.cells (.slice none 0 0)), fltV (e : Int)])
/-- What Read answers. -/
def ReadP (W : World) (R : Except Nat (Hd × Fo)) (o : Ending) (W' : World) : Prop := Below W.heap.size W W' ∧ match R with
  | .ok (h, k) => ∃ v, o = .returned (.tuple #[.agg (h.cells v), .int .i64 0]) ∧ Kd (fun B => W.heap.size ≤ B) W' v k ∧ h.u < 18446744073709551616
  | .error e => o = .returned (.tuple #[.agg (zH.cells (.slice none 0 0)), .int .i64 (e : Int)])
set_option maxRecDepth 100000 in
set_option maxHeartbeats 2000000 in
theorem Read_doc (l : List UInt8) (R : Except Nat (Hd × Fo)) (W : World) (hT : Tc W) (hD : ∀ V, Tc V → Calls Tryz.prog 30 #[.string ⟨l.toArray⟩] V (DocP V R)) : Calls Tryz.prog 15 #[.string ⟨l.toArray⟩] W (ReadP W R) := by
  have HT := Lib.hid hT
  have HD := Lib.hid hD
  clear hT hD
  go_enter Tryz.func15, Tryz.ntmps15
  go_wp2_with fail
  refine (HD.out _ (HT.out.below (below_a (Below.refl _ _) _))).mono ?_
  rintro o w3 ⟨hb3, hm⟩
  have HB3 := Lib.hid (below_nx (below_a (Below.refl W.heap.size W) (.cells (zH.cells (.slice none 0 0)) 28)) hb3)
  have HX := Lib.hid (show Nx w3 W.heap.size zH (.slice none 0 0) from (Bx.new W (zH.cells (.slice none 0 0)) 28).below hb3)
  clear hb3
  cases R with
  | error e =>
    obtain rfl := hm
    simp only [zH, Hd.cells, Int.cast_ofNat_Int]
    go_wp2_with fail
    obtain ⟨w4, hw4⟩ : ∃ w4, w4 = (w3.alloc (.cells (zH.cells (.slice none 0 0)) 28)).alloc (.cells #[.int .i64 0] 61) := ⟨_, rfl⟩
    have hb4 : Below w3.heap.size w3 w4 := by rw [hw4]; exact below_a (below_a (Below.refl _ _) _) _
    have ht4 : w4.cell? ⟨w3.heap.size + 1, 0, none⟩ = some (.int .i64 0) := by rw [hw4]; exact (Bx.new1 w3 _ _ _).c 0 rfl
    have hf4 : w4.frozen? ⟨w3.heap.size + 1, 0, none⟩ = false := by rw [hw4]; exact Bx.f (Bx.new1 w3 _ #[.int .i64 0] _) 0
    have hl4 : w3.heap.size + 1 < w4.heap.size := by rw [hw4]; simp
    simp only [zH, Hd.cells, Int.cast_ofNat_Int] at hw4
    rw [← hw4]
    clear hw4
    have hs3 := HX.out.lt
    refine (as_hit ⟨w3.heap.size + 1, 0, none⟩ e (.int .i64 0) w4 (HT.out.below (below_nx HB3.out hb4)).2.2 ht4 hf4).mono ?_
    rintro o w5 ⟨rfl, hw5⟩
    have hb45 : Below w4.heap.size w4 (asW ⟨w3.heap.size + 1, 0, none⟩ (e : Int) w4) := below_a (below_a (below_a (below_a (Below.refl _ _) _) _) _) _
    have HX5 := Lib.hid (show Nx w5 W.heap.size zH (.slice none 0 0) from by
      rw [hw5]
      exact nx_setc ((HX.out.below hb4).below hb45) (by omega))
    have HB5 := Lib.hid (show Below W.heap.size W w5 from by
      rw [hw5]
      exact Below.setCell (below_nx (below_nx HB3.out hb4) hb45) (show W.heap.size ≤ w3.heap.size + 1 by omega) _)
    have ht5 : w5.cell? ⟨w3.heap.size + 1, 0, none⟩ = some (.int .i64 (e : Int)) := by
      rw [hw5]
      have h0 : (asW ⟨w3.heap.size + 1, 0, none⟩ (e : Int) w4).heap[w3.heap.size + 1]? = w4.heap[w3.heap.size + 1]? := hb45.block _ hl4
      exact World.cell?_setCell_same (h := (cell_of_block h0).trans ht4) ..
    clear hw5 hb45 ht4 hf4 hb4 hl4
    obtain ⟨p0, p1, p2, p3, p4, p5, p6, p7, p8⟩ := HX5.out.nine
    obtain ⟨x0, x1, x2, x3, x4, x5, x6, x7, x8⟩ := nx_f HX5.out
    have hs5 := HX5.out.lt
    go_wp2_with fail
    go_region
    go_wp2
    obtain ⟨W5, hW5⟩ : ∃ W5, W5 = (setN w5 W.heap.size zH (.slice none 0 0)).drew := ⟨_, rfl⟩
    have hX6 : Nx W5 W.heap.size zH (.slice none 0 0) := by rw [hW5]; exact (Nx.setN HX5.out _ _).drew
    have hB6 : Below W.heap.size W W5 := by rw [hW5]; exact (Below.grown HB5.out (gr_setN _ _ _ _) HB5.out.size (fun k e => by cases e; exact Nat.le_refl _)).drew
    simp only [setN, zH, Int.cast_ofNat_Int] at hW5
    rw [← hW5]
    clear hW5
    refine bodyPost_ret (res_ct Tryz.results15 _ _ W.heap.size _ _ rfl rfl (ldNd hX6)) rfl ?_
    exact ⟨hB6, rfl⟩
  | ok y =>
    obtain ⟨h', k'⟩ := y
    obtain ⟨v', rfl, hk', hu'⟩ := hm
    obtain ⟨A', c', rfl, _, _, _⟩ := hk'.form
    have HKd := Lib.hid hk'
    clear hk'
    simp only [Hd.cells]
    go_wp2_with fail
    refine (as_nil _ _).mono ?_
    rintro o w4 ⟨rfl, rfl⟩
    have hs3 := HX.out.lt
    obtain ⟨p0, p1, p2, p3, p4, p5, p6, p7, p8⟩ := HX.out.nine
    obtain ⟨x0, x1, x2, x3, x4, x5, x6, x7, x8⟩ := nx_f HX.out
    go_wp2_with fail
    obtain ⟨W4, hW4⟩ : ∃ W4, W4 = setN w3 W.heap.size h' (.slice A' k'.len c') := ⟨_, rfl⟩
    have hX4 : Nx W4 W.heap.size h' (.slice A' k'.len c') := by rw [hW4]; exact Nx.setN HX.out _ _
    have hB4 : Below W.heap.size W W4 := by rw [hW4]; exact Below.grown HB3.out (gr_setN _ _ _ _) HB3.out.size (fun k e => by cases e; exact Nat.le_refl _)
    have hK4 : Kd (fun B => W.heap.size + 1 ≤ B) W4 (.slice A' k'.len c') k' := by
      rw [hW4]
      exact (HKd.out.mono (Q := fun B => W.heap.size + 1 ≤ B) fun B h1 _ => by simp only [World.size_alloc] at h1; omega).kept (by rw [size_setN]; exact Nat.le_refl _) (fun B h1 h2 => setN_other (by omega))
    obtain ⟨W5, hW5⟩ : ∃ W5, W5 = (W4.alloc (.cells (h'.cells (.slice A' k'.len c')) 28)).alloc (.cells #[.int .i64 0] 61) := ⟨_, rfl⟩
    have hb5 : Below W4.heap.size W4 W5 := by rw [hW5]; exact below_a (below_a (Below.refl _ _) _) _
    simp only [Hd.cells] at hW5
    simp only [setN] at hW4
    rw [hW4] at hW5
    rw [← hW5]
    clear hW5 hW4
    refine bodyPost_ret (res_ct Tryz.results15 _ _ W.heap.size _ _ rfl rfl (ldNd (hX4.below hb5))) rfl ?_
    exact ⟨below_nx hB4 hb5, _, rfl, (hK4.below hb5).mono fun B h1 _ => by omega, hu'⟩
end Go.Proofs.YtppapkpceejnkaaGreatDoor
