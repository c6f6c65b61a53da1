import Derived.Test.YtepcciodhppbnaaE24

namespace Go.Proofs.Ytepcciodhppbnaa
open Go.RowKit

set_option maxRecDepth 100000 in
set_option maxHeartbeats 400000 in
theorem refEqualizerErr_any (f s d : Int) (w : World) :
    Calls Try.prog 28 #[.agg #[.int .i64 f, .int .i64 s, .int .i64 d]] w fun e w' => e = .returned (.int .i64 (eqzE f s d)) ∧ Below w.heap.size w w' := by
  have HE : Hid (eqzE f s d = if (fromB (-1000) 1000 [f] && fromB (-1000) 1000 [s] && fromB 1 1000 [d]) = true then 0 else 2) := by
    show _ = _
    unfold eqzE
    rw [rngE_two, rngE_one, fromB_one, fromB_one, fromB_one]
    by_cases h1 : -1000 ≤ f ∧ f ≤ 1000 ∧ -1000 ≤ s ∧ s ≤ 1000
    · rw [if_pos h1]
      by_cases h2 : 1 ≤ d ∧ d ≤ 1000
      · simp [h1.1, h1.2.1, h1.2.2.1, h1.2.2.2, h2.1, h2.2]
      · rw [if_neg h2]; simp [h1.1, h1.2.1, h1.2.2.1, h1.2.2.2]; omega
    · rw [if_neg h1]; simp; omega
  have W1 := Lib.hid (fun w => within_any f (-1000) 1000 w)
  have W2 := Lib.hid (fun w => within_any s (-1000) 1000 w)
  have W3 := Lib.hid (fun w => within_any d 1 1000 w)
  obtain ⟨x, hx⟩ : ∃ x, fromB (-1000) 1000 [f] = x := ⟨_, rfl⟩
  obtain ⟨y, hy⟩ : ∃ y, fromB (-1000) 1000 [s] = y := ⟨_, rfl⟩
  obtain ⟨z, hz⟩ : ∃ z, fromB 1 1000 [d] = z := ⟨_, rfl⟩
  rw [hx] at W1 HE
  rw [hy] at W2 HE
  rw [hz] at W3 HE
  clear hx hy hz
  obtain ⟨E, hE⟩ : ∃ E, eqzE f s d = E := ⟨_, rfl⟩
  rw [hE] at HE ⊢
  clear hE
  cases x <;> cases y <;> cases z
  all_goals
    have HF := HE.out
    simp at HF
    subst HF
    clear HE
  case false.false.false =>
    go_enter Try.func28, Try.ntmps28
    go_wp2_with fail
    refine (W1.out _).mono ?_
    rintro e w' ⟨rfl, rfl⟩
    go_wp2_with fail
    go_ret
    exact ⟨rfl, by (repeat (first | exact Below.refl _ _ | refine Below.drew ?_ | refine belowDrewN ?_ _ | refine Below.alloc ?_ (by first | (simp; done) | (simp; omega)) _))⟩
  case false.false.true =>
    go_enter Try.func28, Try.ntmps28
    go_wp2_with fail
    refine (W1.out _).mono ?_
    rintro e w' ⟨rfl, rfl⟩
    go_wp2_with fail
    go_ret
    exact ⟨rfl, by (repeat (first | exact Below.refl _ _ | refine Below.drew ?_ | refine belowDrewN ?_ _ | refine Below.alloc ?_ (by first | (simp; done) | (simp; omega)) _))⟩
  case false.true.false =>
    go_enter Try.func28, Try.ntmps28
    go_wp2_with fail
    refine (W1.out _).mono ?_
    rintro e w' ⟨rfl, rfl⟩
    go_wp2_with fail
    go_ret
    exact ⟨rfl, by (repeat (first | exact Below.refl _ _ | refine Below.drew ?_ | refine belowDrewN ?_ _ | refine Below.alloc ?_ (by first | (simp; done) | (simp; omega)) _))⟩
  case false.true.true =>
    go_enter Try.func28, Try.ntmps28
    go_wp2_with fail
    refine (W1.out _).mono ?_
    rintro e w' ⟨rfl, rfl⟩
    go_wp2_with fail
    go_ret
    exact ⟨rfl, by (repeat (first | exact Below.refl _ _ | refine Below.drew ?_ | refine belowDrewN ?_ _ | refine Below.alloc ?_ (by first | (simp; done) | (simp; omega)) _))⟩
  case true.false.false =>
    go_enter Try.func28, Try.ntmps28
    go_wp2_with fail
    refine (W1.out _).mono ?_
    rintro e w' ⟨rfl, rfl⟩
    go_wp2_with fail
    refine (W2.out _).mono ?_
    rintro e w' ⟨rfl, rfl⟩
    go_wp2_with fail
    go_ret
    exact ⟨rfl, by (repeat (first | exact Below.refl _ _ | refine Below.drew ?_ | refine belowDrewN ?_ _ | refine Below.alloc ?_ (by first | (simp; done) | (simp; omega)) _))⟩
  case true.false.true =>
    go_enter Try.func28, Try.ntmps28
    go_wp2_with fail
    refine (W1.out _).mono ?_
    rintro e w' ⟨rfl, rfl⟩
    go_wp2_with fail
    refine (W2.out _).mono ?_
    rintro e w' ⟨rfl, rfl⟩
    go_wp2_with fail
    go_ret
    exact ⟨rfl, by (repeat (first | exact Below.refl _ _ | refine Below.drew ?_ | refine belowDrewN ?_ _ | refine Below.alloc ?_ (by first | (simp; done) | (simp; omega)) _))⟩
  case true.true.false =>
    go_enter Try.func28, Try.ntmps28
    go_wp2_with fail
    refine (W1.out _).mono ?_
    rintro e w' ⟨rfl, rfl⟩
    go_wp2_with fail
    refine (W2.out _).mono ?_
    rintro e w' ⟨rfl, rfl⟩
    go_wp2_with fail
    refine (W3.out _).mono ?_
    rintro e w' ⟨rfl, rfl⟩
    go_wp2_with fail
    go_ret
    exact ⟨rfl, by (repeat (first | exact Below.refl _ _ | refine Below.drew ?_ | refine belowDrewN ?_ _ | refine Below.alloc ?_ (by first | (simp; done) | (simp; omega)) _))⟩
  case true.true.true =>
    go_enter Try.func28, Try.ntmps28
    go_wp2_with fail
    refine (W1.out _).mono ?_
    rintro e w' ⟨rfl, rfl⟩
    go_wp2_with fail
    refine (W2.out _).mono ?_
    rintro e w' ⟨rfl, rfl⟩
    go_wp2_with fail
    refine (W3.out _).mono ?_
    rintro e w' ⟨rfl, rfl⟩
    go_wp2_with fail
    go_ret
    exact ⟨rfl, by (repeat (first | exact Below.refl _ _ | refine Below.drew ?_ | refine belowDrewN ?_ _ | refine Below.alloc ?_ (by first | (simp; done) | (simp; omega)) _))⟩

end Go.Proofs.Ytepcciodhppbnaa
