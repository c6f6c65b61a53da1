import Derived.Test.YtkemoffagdilgaaGreatDoorW23
namespace Go.Proofs.YtkemoffagdilgaaGreatDoor
open Go.RowKit

theorem size_any (n : Int) (h0 : -9223372036854775808 < n) (h1 : n ≤ 9223372036854775807) (w : World) :
    Calls Tryz.prog 68 #[.int .i64 n] w fun e w' => e = .returned (.int .i64 (n.natAbs : Int)) ∧ w = w' := by
  go_enter Tryz.func68, Tryz.ntmps68
  go_wp2
  all_goals
    go_ret
    refine ⟨?_, rfl⟩
    first
    | (show Ending.returned (Value.int .i64 (-n)) = _; congr 2; omega)
    | (show Ending.returned (Value.int .i64 n) = _; congr 2; omega)

end Go.Proofs.YtkemoffagdilgaaGreatDoor
