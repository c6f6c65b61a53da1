import Derived.Test.YtofdjapbofagiaaDoorS2
namespace Go.Proofs.YtofdjapbofagiaaDoor
open Go.RowKit

theorem half {x q : Int} (h : x.tdiv 2 = q) : ∃ m : Int, 2 * q + m = x ∧ -1 ≤ m ∧ m ≤ 1 := by
  refine ⟨x.tmod 2, ?_, ?_, ?_⟩
  · rw [← h]; exact Int.mul_tdiv_add_tmod x 2
  · have := Int.lt_tmod_of_pos x (show (0 : Int) < 2 by omega); omega
  · have := Int.tmod_lt_of_pos x (show (0 : Int) < 2 by omega); omega
theorem from_pair {lo hi a b : Int} (h : fromB lo hi [a, b] = true) : lo ≤ a ∧ a ≤ hi ∧ lo ≤ b ∧ b ≤ hi := by simp [fromB] at h; omega
/-- The error of a matrix, and its walls. -/
def matE (p : Int × Int) : Int := if fromB (-2000000) 2000000 [p.1, p.2] = true then (if p.1 % 2 = p.2 % 2 then (if p.2 < 0 then 9 else if fromB (-1000000) 1000000 [(p.1 - p.2) / 2, (p.1 + p.2) / 2] = true then 0 else 23) else 3) else 2
def wlsP (p : Int × Int) : Int × Int := ((p.1 - p.2) / 2, (p.1 + p.2) / 2)

end Go.Proofs.YtofdjapbofagiaaDoor
