import Derived.Test.YtofdjapbofagiaaDoorV1
namespace Go.Proofs.YtofdjapbofagiaaDoor
open Go.RowKit

theorem jmpTo_step (xs : List Int) (limit : Int) (q : Nat) : jmpTo xs limit (q + 1 + 1) = if jmpB xs limit (q + 1) = true then jmpTo xs limit (q + 1) ++ [((q + 1 : Nat) : Int)] else jmpTo xs limit (q + 1) := by
  show (if (q + 1) ≠ 0 ∧ jmpB xs limit (q + 1) = true then _ else _) = _
  by_cases h : jmpB xs limit (q + 1) = true
  · rw [if_pos ⟨by omega, h⟩, if_pos h]
  · rw [if_neg (fun h' => h h'.2), if_neg h]
theorem jmpTo_one (xs : List Int) (limit : Int) : jmpTo xs limit 1 = [] := rfl

end Go.Proofs.YtofdjapbofagiaaDoor
