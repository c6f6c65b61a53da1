import Derived.Test.YtepcciodhppbnaaE51

namespace Go.Proofs.Ytepcciodhppbnaa
open Go.RowKit

theorem outE_of {xs : List Int} (hl : xs.length ≤ 400) (h : ∀ x ∈ xs, -1000000000000000 ≤ x ∧ x ≤ 1000000000000000) : outE xs = 0 := by
  rw [outE_eq, if_neg (by omega)]
  unfold rngE
  rw [if_pos]
  unfold fromB
  rw [List.all_eq_true]
  intro x hx
  have := h x hx
  simp; omega
theorem sigE_eq (xs : List Int) : sigE xs = if 400 < xs.length then 8 else rngE (-32767) 32767 xs := rfl
theorem sigE_of {xs : List Int} (hl : xs.length ≤ 400) (h : ∀ x ∈ xs, -32767 ≤ x ∧ x ≤ 32767) : sigE xs = 0 := by
  rw [sigE_eq, if_neg (by omega)]
  unfold rngE
  rw [if_pos]
  unfold fromB
  rw [List.all_eq_true]
  intro x hx
  have := h x hx
  simp; omega
end Go.Proofs.Ytepcciodhppbnaa
