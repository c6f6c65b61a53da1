import Derived.Test.YtmeddnpahkigeaaDoorW78
namespace Go.Proofs.YtmeddnpahkigeaaDoor
open Go.RowKit

set_option maxRecDepth 100000 in
set_option maxHeartbeats 2000000 in
theorem cuts_err (A : Option Addr) (n cp : Nat) (xs : List Int) (h c : Int) (w : World) (hw : Laid w) (hA : A = none → n = 0 ∧ cp = 0) (hr : RdI w A n xs) (hn : n ≤ 330) (hE : cutE n xs h c ≠ 0) :
    Calls Tryd.prog 3 #[.slice A n cp, .agg #[.int .i64 h, .int .i64 c]] w fun e w' => e = .returned (.bool true) ∧ Below w.heap.size w w' := by
  have HW := Lib.hid hw
  have HR := Lib.hid hr
  have hnI : (n : Int) ≤ 330 := by omega
  have CI : Hid (∀ W, RdI W A n xs → Calls Tryd.prog 9 #[.slice A n cp] W fun e w' => ∃ A3 c3, e = .returned (.slice A3 n c3) ∧ n ≤ c3 ∧ c3 ≤ 9223372036854775807 ∧ RdI w' A3 n xs ∧ Below W.heap.size W w') := fun W hW => copyInts_rd A n cp xs W hA hW (by omega)
  have CB : Hid (∀ W A3 c3, RdI W A3 n xs → n ≤ c3 → c3 ≤ 9223372036854775807 → Calls Tryd.prog 8 #[.slice A3 n c3, .agg #[.int .i64 h, .int .i64 c]] W fun e w' => e = .returned (.tuple #[.slice none 0 0, .int .i64 (cutE n xs h c)]) ∧ Below W.heap.size W w') := fun W A3 c3 h1 _ _ => blocksOf_err A3 n c3 xs h c W h1 (by omega) hE
  have CE : Hid (∀ W, RdI W A n xs → Calls Tryd.prog 10 #[.slice A n cp, .agg #[.int .i64 h, .int .i64 c]] W fun e w' => e = .returned (.int .i64 (cutE n xs h c)) ∧ Below W.heap.size W w') := fun W hW => cutErr_any A n cp xs h c W hW (by omega)
  obtain ⟨E, hEE⟩ : ∃ E, cutE n xs h c = E := ⟨_, rfl⟩
  rw [hEE] at CB CE hE
  clear hEE hw hr hA
  go_enter Tryd.func3, Tryd.ntmps3
  go_wp2_with fail
  refine (awake_any _ (HW.out.later ((Below.refl _ _).alloc (Nat.le_refl _) _))).mono ?_
  rintro e w2 ⟨rfl, hb2⟩
  have HB : Hid (Below w.heap.size w w2) := ((Below.refl _ _).alloc (Nat.le_refl _) _).trans (hb2.mono (by simp))
  have HX2 : Hid (Bk w2 w.heap.size 24 #[.int .i64 h, .int .i64 c]) := (Bk.new w _ _).below hb2 (by simp)
  have hlt2 : w.heap.size < w2.heap.size := HX2.out.lt
  have R2 := Lib.hid (HR.out.below HB.out)
  have p0 : w2.cell? ⟨w.heap.size, 0, none⟩ = some (.int .i64 h) := by rw [HX2.out.cell]; rfl
  have p1 : w2.cell? ⟨w.heap.size, 1, none⟩ = some (.int .i64 c) := by rw [HX2.out.cell]; rfl
  clear hb2
  go_wp2_with fail
  go_region_held3 (fun w' => RdI w' A n xs ∧ w'.cell? ⟨w.heap.size, 0, none⟩ = some (.int .i64 h) ∧ w'.cell? ⟨w.heap.size, 1, none⟩ = some (.int .i64 c) ∧ w.heap.size < w'.heap.size)
    ((go_split_ands; refine ⟨?_, ?_, ?_, ?_⟩ <;> first
      | assumption | exact R2.out
      | (exact RdI.below (by assumption) hb)
      | (rw [hb.cell (by assumption)]; assumption)
      | (exact Nat.lt_of_lt_of_le (by assumption) hb.size)
      | (simp; omega)))
    (first
      | (go_at_call 9; refine (CI.out _ (by assumption)).mono ?_; rintro e w' ⟨A3, c3, rfl, hnc3, hcc3, hr3, hb⟩)
      | (go_at_call 8; refine (CB.out _ _ _ (by assumption) (by assumption) (by assumption)).mono ?_; rintro e w' ⟨rfl, hb⟩))
  obtain ⟨RW, q0, q1, _⟩ := ‹RdI w' A n xs ∧ _›
  have HB5 : Hid (Below w.heap.size w w') := (HB.out.drew).trans (((‹Below w2.drew.heap.size w2.drew _› : Below _ _ _).mono (by simp; omega)).trans (hb.mono (by have := (‹Below w2.drew.heap.size w2.drew _› : Below _ _ _).size; simp at this; omega)))
  have hsz5 : w.heap.size < w'.heap.size := by assumption
  have HRW := Lib.hid RW
  clear hb RW
  go_wp2_with fail
  refine (CE.out _ HRW.out).mono ?_
  rintro e w6 ⟨rfl, hb6⟩
  have HB6 : Hid (Below w.heap.size w w6) := HB5.out.trans (hb6.mono (by omega))
  have hE0 : (E == 0) = false := by simpa using hE
  clear hb6
  go_wp2
  go_ret
  exact ⟨rfl, HB6.out⟩

set_option maxRecDepth 100000 in
set_option maxHeartbeats 2000000 in
theorem cuts_ok (A : Option Addr) (n cp : Nat) (xs : List Int) (h c : Int) (w : World) (hw : Laid w) (hA : A = none → n = 0 ∧ cp = 0) (hr : RdI w A n xs) (hn : n ≤ 330) (hE : cutE n xs h c = 0) :
    Calls Tryd.prog 3 #[.slice A n cp, .agg #[.int .i64 h, .int .i64 c]] w fun e w' => e = .returned (.bool true) ∧ Below w.heap.size w w' := by
  have HW := Lib.hid hw
  have HR := Lib.hid hr
  have hnI : (n : Int) ≤ 330 := by omega
  have CI : Hid (∀ W, RdI W A n xs → Calls Tryd.prog 9 #[.slice A n cp] W fun e w' => ∃ A3 c3, e = .returned (.slice A3 n c3) ∧ n ≤ c3 ∧ c3 ≤ 9223372036854775807 ∧ RdI w' A3 n xs ∧ Below W.heap.size W w') := fun W hW => copyInts_rd A n cp xs W hA hW (by omega)
  have CB : Hid (∀ W A3 c3, RdI W A3 n xs → n ≤ c3 → c3 ≤ 9223372036854775807 → Calls Tryd.prog 8 #[.slice A3 n c3, .agg #[.int .i64 h, .int .i64 c]] W fun e w' => ∃ v c', e = .returned (.tuple #[.slice v (cntN n) c', .int .i64 0]) ∧ RdB w' v (cntN n) (blksX xs h c (cntN n)) ∧ Below W.heap.size W w') := fun W A3 c3 h1 h2 h3 => (blocksOf_ok A3 n c3 xs h c W h1 (by omega) h2 h3 hE).mono (by
    rintro e w' ⟨⟨v, rfl, ho⟩, hb⟩
    obtain ⟨B, cb, rfl, _⟩ := own_formT ho
    exact ⟨B, cb, rfl, RdB.of_own ho (blksX_length _ _ _ _), hb⟩)
  have CE : Hid (∀ W, RdI W A n xs → Calls Tryd.prog 10 #[.slice A n cp, .agg #[.int .i64 h, .int .i64 c]] W fun e w' => e = .returned (.int .i64 0) ∧ Below W.heap.size W w') := fun W hW => by rw [← hE]; exact cutErr_any A n cp xs h c W hW (by omega)
  obtain ⟨hk40, hX, hh, hc0, hc1⟩ := cutE_parts hE
  have CRB : Hid (∀ W, RdI W A n xs → Calls Tryd.prog 12 #[.slice A n cp, .agg #[.int .i64 h, .int .i64 c]] W fun e w' => ∃ v c', e = .returned (.slice v (cntN n) c') ∧ RdB w' v (cntN n) (blksX xs h c (cntN n)) ∧ Below W.heap.size W w') := fun W hW => (refBlocksOf_any A n cp xs h c W hW hX (by omega) hh ⟨hc0, hc1⟩).mono (by
    rintro e w' ⟨⟨v, rfl, ho⟩, hb⟩
    obtain ⟨B, cb, rfl, _⟩ := own_formT ho
    exact ⟨B, cb, rfl, RdB.of_own ho (blksX_length _ _ _ _), hb⟩)
  have CSB : Hid (∀ W A B ca cb, RdB W A (cntN n) (blksX xs h c (cntN n)) → RdB W B (cntN n) (blksX xs h c (cntN n)) → Calls Tryd.prog 11 #[.slice A (cntN n) ca, .slice B (cntN n) cb] W fun e w' => e = .returned (.bool true) ∧ ∃ j, w' = W.drewN j) := fun W A B ca cb h1 h2 => sameBlocks_any A B _ ca cb _ W h1 h2 (blksX_ok xs h c _ hX hh (fun j hj => by omega)) (by omega)
  obtain ⟨k, hk⟩ : ∃ k, cntN n = k := ⟨_, rfl⟩
  obtain ⟨bs, hbs⟩ : ∃ bs, blksX xs h c k = bs := ⟨_, rfl⟩
  rw [hk, hbs] at CB CRB CSB
  clear hk hbs hw hr hA hE hX hh hc0 hc1 hk40
  go_enter Tryd.func3, Tryd.ntmps3
  go_wp2_with fail
  refine (awake_any _ (HW.out.later ((Below.refl _ _).alloc (Nat.le_refl _) _))).mono ?_
  rintro e w2 ⟨rfl, hb2⟩
  have HB : Hid (Below w.heap.size w w2) := ((Below.refl _ _).alloc (Nat.le_refl _) _).trans (hb2.mono (by simp))
  have HX2 : Hid (Bk w2 w.heap.size 24 #[.int .i64 h, .int .i64 c]) := (Bk.new w _ _).below hb2 (by simp)
  have hlt2 : w.heap.size < w2.heap.size := HX2.out.lt
  have R2 := Lib.hid (HR.out.below HB.out)
  have p0 : w2.cell? ⟨w.heap.size, 0, none⟩ = some (.int .i64 h) := by rw [HX2.out.cell]; rfl
  have p1 : w2.cell? ⟨w.heap.size, 1, none⟩ = some (.int .i64 c) := by rw [HX2.out.cell]; rfl
  clear hb2
  go_wp2_with fail
  go_region_held3 (fun w' => RdI w' A n xs ∧ w'.cell? ⟨w.heap.size, 0, none⟩ = some (.int .i64 h) ∧ w'.cell? ⟨w.heap.size, 1, none⟩ = some (.int .i64 c) ∧ w.heap.size < w'.heap.size)
    ((go_split_ands; refine ⟨?_, ?_, ?_, ?_⟩ <;> first
      | assumption | exact R2.out
      | (exact RdI.below (by assumption) hb)
      | (rw [hb.cell (by assumption)]; assumption)
      | (exact Nat.lt_of_lt_of_le (by assumption) hb.size)
      | (simp; omega)))
    (first
      | (go_at_call 9; refine (CI.out _ (by assumption)).mono ?_; rintro e w' ⟨A3, c3, rfl, hnc3, hcc3, hr3, hb⟩)
      | (go_at_call 8; refine (CB.out _ _ _ (by assumption) (by assumption) (by assumption)).mono ?_; rintro e w' ⟨B4, c4, rfl, hrb, hb⟩))
  obtain ⟨RW, q0, q1, _⟩ := ‹RdI w' A n xs ∧ _›
  have HB5 : Hid (Below w.heap.size w w') := (HB.out.drew).trans (((‹Below w2.drew.heap.size w2.drew _› : Below _ _ _).mono (by simp; omega)).trans (hb.mono (by have := (‹Below w2.drew.heap.size w2.drew _› : Below _ _ _).size; simp at this; omega)))
  have hsz5 : w.heap.size < w'.heap.size := by assumption
  have HRW := Lib.hid RW
  have HRB := Lib.hid hrb
  clear hb RW hrb
  go_wp2_with fail
  refine (CE.out _ HRW.out).mono ?_
  rintro e w6 ⟨rfl, hb6⟩
  have HB6 : Hid (Below w.heap.size w w6) := HB5.out.trans (hb6.mono (by omega))
  have RB6 := Lib.hid (HRB.out.below hb6)
  have RI6 := Lib.hid (HRW.out.below hb6)
  have t0 : w6.cell? ⟨w.heap.size, 0, none⟩ = some (.int .i64 h) := (hb6.cell (by assumption)).trans q0
  have t1 : w6.cell? ⟨w.heap.size, 1, none⟩ = some (.int .i64 c) := (hb6.cell (by assumption)).trans q1
  have hz6 := hb6.size
  clear hb6
  clear q0 q1
  go_wp2_with fail
  refine (CRB.out _ RI6.out).mono ?_
  rintro e w7 ⟨B7, c7, rfl, hrb7, hb7⟩
  have RB7 := Lib.hid hrb7
  have RB67 := Lib.hid (RB6.out.below hb7)
  have HB7 : Hid (Below w.heap.size w w7) := HB6.out.trans (hb7.mono (by omega))
  clear hb7 hrb7
  go_wp2_with fail
  refine (CSB.out _ _ _ _ _ RB67.out RB7.out).mono ?_
  rintro e w8 ⟨rfl, ⟨j8, rfl⟩⟩
  go_wp2
  go_ret
  exact ⟨rfl, belowDrewN HB7.out _⟩

theorem cuts_walk (A : Option Addr) (n cp : Nat) (xs : List Int) (h c : Int) (w : World) (hw : Laid w) (hA : A = none → n = 0 ∧ cp = 0) (hr : RdI w A n xs) :
    Calls Tryd.prog 3 #[.slice A n cp, .agg #[.int .i64 h, .int .i64 c]] w fun e w' => e = .returned (.bool true) ∧ Below w.heap.size w w' := by
  by_cases hn : 330 < n
  · exact cuts_long A n cp xs h c w hw hn
  · by_cases hE : cutE n xs h c = 0
    · exact cuts_ok A n cp xs h c w hw hA hr (by omega) hE
    · exact cuts_err A n cp xs h c w hw hA hr (by omega) hE

end Go.Proofs.YtmeddnpahkigeaaDoor
