import Derived.Test.YtepjnkmmielamaaDoorW41
namespace Go.Proofs.YtepjnkmmielamaaDoor
open Go.RowKit

theorem arrInfoL (x0 x1 x2 x3 x4 x5 x6 x7 : Int) : (Tryd.prog.info? 35).map (·.size) = some (#[.int .i64 x0, .int .i64 x1, .int .i64 x2, .int .i64 x3, .int .i64 x4, .int .i64 x5, .int .i64 x6, .int .i64 x7] : Array Value).size := arrInfo
def bitsE (xs : List Int) (p k : Int) : Int := firstE [rangesE xs (-32767) 32767, rangeE p 0 2, rangeE k 0 17]

set_option maxRecDepth 100000 in
set_option maxHeartbeats 1000000 in
theorem bitsHead (x0 x1 x2 x3 x4 x5 x6 x7 p k r0 : Int) (w : World) (hr0 : bitsE [x0, x1, x2, x3, x4, x5, x6, x7] p k = r0) (hne : r0 ≠ 0) :
    Calls Tryd.prog 46 #[.agg #[.int .i64 x0, .int .i64 x1, .int .i64 x2, .int .i64 x3, .int .i64 x4, .int .i64 x5, .int .i64 x6, .int .i64 x7], .int .i64 p, .int .i64 k] w fun e w' => e = .returned (.tuple #[.int .i64 0, .int .i64 r0]) ∧ Below w.heap.size w w' := by
  obtain ⟨r1, hr1⟩ : ∃ r, rangesE [x0, x1, x2, x3, x4, x5, x6, x7] (-32767) 32767 = r := ⟨_, rfl⟩
  obtain ⟨r2, hr2⟩ : ∃ r, rangeE p 0 2 = r := ⟨_, rfl⟩
  obtain ⟨r3, hr3⟩ : ∃ r, rangeE k 0 17 = r := ⟨_, rfl⟩
  have C1 : Hid (∀ W, Calls Tryd.prog 99 #[.agg #[.int .i64 x0, .int .i64 x1, .int .i64 x2, .int .i64 x3, .int .i64 x4, .int .i64 x5, .int .i64 x6, .int .i64 x7]] W fun e w' => e = .returned (.int .i64 r1) ∧ Below W.heap.size W w') := fun W => by rw [← hr1]; exact checkSamples_any _ _ W (is8_lit x0 x1 x2 x3 x4 x5 x6 x7)
  have C2 : Hid (∀ W, Calls Tryd.prog 76 #[.int .i64 p, .int .i64 0, .int .i64 2] W fun e w' => e = .returned (.int .i64 r2) ∧ W = w') := fun W => by rw [← hr2]; exact checkRange_any _ _ _ W
  have C3 : Hid (∀ W, Calls Tryd.prog 76 #[.int .i64 k, .int .i64 0, .int .i64 17] W fun e w' => e = .returned (.int .i64 r3) ∧ W = w') := fun W => by rw [← hr3]; exact checkRange_any _ _ _ W
  have HF : Hid (∀ W : World, Calls Tryd.prog 74 #[.slice (some ⟨W.heap.size, 0, none⟩) 3 3] (W.alloc (.cells #[.int .i64 r1, .int .i64 r2, .int .i64 r3] 27)) fun e w' => e = .returned (.int .i64 r0) ∧ W.alloc (.cells #[.int .i64 r1, .int .i64 r2, .int .i64 r3] 27) = w') := fun W => by
    have e : r0 = firstE [r1, r2, r3] := by rw [← hr0, bitsE, hr1, hr2, hr3]
    rw [e]
    exact first3 r1 r2 r3 W
  have hb0 : (r0 != 0) = true := by simpa using hne
  clear hr1 hr2 hr3 hr0 hne
  go_enter Tryd.func46, Tryd.ntmps46
  go_wp2_with (first
    | (with_reducible refine wpList_load_row rfl 35 (.tmp 3) rfl w.heap.size rfl 35 #[.int .i64 x0, .int .i64 x1, .int .i64 x2, .int .i64 x3, .int .i64 x4, .int .i64 x5, .int .i64 x6, .int .i64 x7] (0, 0) _ (heap_alloc_new w _) arrUnder rfl (arrInfoL x0 x1 x2 x3 x4 x5 x6 x7) ?_)
    | (go_at_call 99; refine (C1.out _).mono ?_; rintro e w' ⟨rfl, hb0⟩; have hb := Lib.hid hb0; clear hb0)
    | (go_at_call 76; (with_reducible refine (C2.out _).mono ?_); rintro e w' ⟨rfl, rfl⟩)
    | (go_at_call 76; (with_reducible refine (C3.out _).mono ?_); rintro e w' ⟨rfl, rfl⟩)
    | (go_at_call 74; refine (HF.out _).mono ?_; rintro e w' ⟨rfl, rfl⟩))
  go_ret2
  exact ⟨rfl, (((Below.refl _ _).alloc (Nat.le_refl _) _).trans (hb.out.mono (by simp))).alloc (by have := hb.out.size; simp at this; omega) _⟩

set_option maxRecDepth 100000 in
set_option maxHeartbeats 1000000 in
theorem bitsTail (x0 x1 x2 x3 x4 x5 x6 x7 : Int) (p k : Nat) (w : World) (hw : Laid w) (hp : p < 3) (hk : k < 18) (hx : rangesE [x0, x1, x2, x3, x4, x5, x6, x7] (-32767) 32767 = 0) :
    Calls Tryd.prog 46 #[.agg #[.int .i64 x0, .int .i64 x1, .int .i64 x2, .int .i64 x3, .int .i64 x4, .int .i64 x5, .int .i64 x6, .int .i64 x7], .int .i64 p, .int .i64 k] w fun e w' => e = .returned (.tuple #[.int .i64 (bitsF (foldeds [x0, x1, x2, x3, x4, x5, x6, x7] p) k), .int .i64 0]) ∧ Below w.heap.size w w' := by
  have HW := Lib.hid hw; clear hw
  have HBd := Lib.hid (bnd_of_rangesE _ hx)
  have HI := Lib.hid (is8_lit x0 x1 x2 x3 x4 x5 x6 x7)
  obtain ⟨xs, hxs⟩ : ∃ xs : List Int, [x0, x1, x2, x3, x4, x5, x6, x7] = xs := ⟨_, rfl⟩
  have C1 : Hid (∀ W, Calls Tryd.prog 99 #[.agg #[.int .i64 x0, .int .i64 x1, .int .i64 x2, .int .i64 x3, .int .i64 x4, .int .i64 x5, .int .i64 x6, .int .i64 x7]] W fun e w' => e = .returned (.int .i64 0) ∧ Below W.heap.size W w') := fun W => by have := checkSamples_any _ _ W HI.out; rw [hx] at this; exact this
  have C2 : Hid (∀ W, Calls Tryd.prog 76 #[.int .i64 p, .int .i64 0, .int .i64 2] W fun e w' => e = .returned (.int .i64 0) ∧ W = w') := fun W => by have := checkRange_any (p : Int) 0 2 W; rw [(rangeE_zero (p : Int) 0 2).2 ⟨by omega, by omega⟩] at this; exact this
  have C3 : Hid (∀ W, Calls Tryd.prog 76 #[.int .i64 k, .int .i64 0, .int .i64 17] W fun e w' => e = .returned (.int .i64 0) ∧ W = w') := fun W => by have := checkRange_any (k : Int) 0 17 W; rw [(rangeE_zero (k : Int) 0 17).2 ⟨by omega, by omega⟩] at this; exact this
  have C4 : Hid (∀ W, Laid W → Calls Tryd.prog 101 #[.agg #[.int .i64 x0, .int .i64 x1, .int .i64 x2, .int .i64 x3, .int .i64 x4, .int .i64 x5, .int .i64 x6, .int .i64 x7], .int .i64 p] W fun e w' => ∃ us, e = .returned (.agg us) ∧ Is8 us (foldeds xs p) ∧ Below W.heap.size W w') := fun W h => by rw [← hxs]; exact foldedOf_any _ _ p W h HI.out HBd.out hp
  have HS : Hid (Small (foldeds xs p)) := by show Small _; rw [← hxs]; exact foldeds_small _ p HBd.out
  rw [hxs]
  clear hx HBd HI hxs
  have hf : firstE [0, 0, 0] = 0 := rfl
  go_enter Tryd.func46, Tryd.ntmps46
  go_wp2_with (first
    | (with_reducible refine wpList_load_row rfl 35 (.tmp 3) rfl w.heap.size rfl 35 #[.int .i64 x0, .int .i64 x1, .int .i64 x2, .int .i64 x3, .int .i64 x4, .int .i64 x5, .int .i64 x6, .int .i64 x7] (0, 0) _ X1.out.heap arrUnder rfl (arrInfoL x0 x1 x2 x3 x4 x5 x6 x7) ?_)
    | (with_reducible refine wpList_load_row (o := ⟨some 9, _, _, _, _, _⟩) rfl 35 (.tmp 3) rfl w.heap.size rfl 35 #[.int .i64 x0, .int .i64 x1, .int .i64 x2, .int .i64 x3, .int .i64 x4, .int .i64 x5, .int .i64 x6, .int .i64 x7] (0, 0) _ (heap_alloc_new w _) arrUnder rfl (arrInfoL x0 x1 x2 x3 x4 x5 x6 x7) ?_)
    | (go_at_call 99; refine (C1.out _).mono ?_; rintro e w2 ⟨rfl, hb2⟩; have b2 : Hid (Below w.heap.size w w2) := ((Below.refl _ _).alloc (Nat.le_refl _) _).trans (hb2.mono (by simp)); have X2 : Hid (Bk w2 w.heap.size 35 #[.int .i64 x0, .int .i64 x1, .int .i64 x2, .int .i64 x3, .int .i64 x4, .int .i64 x5, .int .i64 x6, .int .i64 x7]) := (Bk.new w _ _).below hb2 (by simp); clear hb2)
    | (go_at_call 76; (with_reducible refine (C2.out _).mono ?_); rintro e w' ⟨rfl, rfl⟩)
    | (go_at_call 76; (with_reducible refine (C3.out _).mono ?_); rintro e w' ⟨rfl, rfl⟩)
    | (go_at_call 74; refine (first3 0 0 0 w2).mono ?_; rintro e w' ⟨rfl, rfl⟩; have X1 : Hid (Bk (w2.alloc (.cells #[.int .i64 0, .int .i64 0, .int .i64 0] 27)) w.heap.size 35 #[.int .i64 x0, .int .i64 x1, .int .i64 x2, .int .i64 x3, .int .i64 x4, .int .i64 x5, .int .i64 x6, .int .i64 x7]) := X2.out.alloc _; have b1 : Hid (Below w.heap.size w (w2.alloc (.cells #[.int .i64 0, .int .i64 0, .int .i64 0] 27))) := b2.out.alloc b2.out.size _)
    | (go_at_call 101; refine (C4.out _ (HW.out.later b1.out)).mono ?_; rintro e w3 ⟨us, rfl, hus, hb3⟩; have HU := Lib.hid hus; have b3 : Hid (Below w.heap.size w w3) := b1.out.trans (hb3.mono b1.out.size); clear hus hb3)
    | (go_at_call 100; refine (bitsFor_any us _ k _ HU.out HS.out (by omega)).mono ?_; rintro e w4 ⟨rfl, hb4⟩; have b4 : Hid (Below w.heap.size w w4) := b3.out.trans (hb4.mono b3.out.size); clear hb4))
  go_ret2
  exact ⟨rfl, b4.out⟩

end Go.Proofs.YtepjnkmmielamaaDoor
