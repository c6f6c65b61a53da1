import Derived.Test.YtepcciodhppbnaaE23
import Derived.Test.YtepcciodhppbnaaE3

namespace Go.Proofs.Ytepcciodhppbnaa
open Go.RowKit

theorem fromB_one (lo hi n : Int) : fromB lo hi [n] = decide (lo ≤ n ∧ n ≤ hi) := by
  unfold fromB
  by_cases h : lo ≤ n ∧ n ≤ hi
  · rw [decide_eq_true h]; simp [h.1, h.2]
  · rw [decide_eq_false h]; simp; omega
end Go.Proofs.Ytepcciodhppbnaa
