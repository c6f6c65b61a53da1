import Derived.Test.YtghpofhpkbgckaaE23
import Derived.Test.YtghpofhpkbgckaaE3

namespace Go.Proofs.Ytghpofhpkbgckaa
open Go.RowKit

theorem fromB_one (lo hi n : Int) : fromB lo hi [n] = decide (lo ≤ n ∧ n ≤ hi) := by
  unfold fromB
  by_cases h : lo ≤ n ∧ n ≤ hi
  · rw [decide_eq_true h]; simp [h.1, h.2]
  · rw [decide_eq_false h]; simp; omega
set_option maxRecDepth 100000 in
theorem refAmplitudeErr_any (a : Int) (w : World) :
    Calls Try.prog 35 #[.int .i64 a] w fun e w' => e = .returned (.int .i64 (ampE a)) ∧ w = w' := by
  have HE : Hid (ampE a = if fromB 0 32767 [a] = true then 0 else 2) := rfl
  have W1 := Lib.hid (fun w => within_any a 0 32767 w)
  obtain ⟨x, hx⟩ : ∃ x, fromB 0 32767 [a] = x := ⟨_, rfl⟩
  rw [hx] at W1 HE
  clear hx
  obtain ⟨E, hE⟩ : ∃ E, ampE a = E := ⟨_, rfl⟩
  rw [hE] at HE ⊢
  clear hE
  cases x <;> (
    have HF := HE.out
    simp at HF
    subst HF
    clear HE
    go_enter Try.func35, Try.ntmps35
    go_wp2_with (go_at_call 20; refine (W1.out _).mono ?_; rintro e w' ⟨rfl, rfl⟩)
    go_ret
    exact ⟨rfl, rfl⟩)
end Go.Proofs.Ytghpofhpkbgckaa
