import Derived.Test.YtnmfeonagigkeaaDoorS4
namespace Go.Proofs.YtnmfeonagigkeaaDoor
open Go.RowKit

theorem floor2_any (n : Int) (hn : -4611686018427387904 ≤ n ∧ n ≤ 4611686018427387904) (w : World) :
    Calls Tryd.prog 57 #[.int .i64 n, .int .i64 2] w fun e w' => e = .returned (.int .i64 (n / 2)) ∧ w = w' := by
  have hf := Lib.hid (tdiv_floor n 2 (by omega))
  have hq : -4611686018427387904 ≤ n.tdiv 2 ∧ n.tdiv 2 ≤ 4611686018427387904 := by
    have h1 := Int.natAbs_tdiv_le_natAbs n 2
    omega
  have HQ := Lib.hid hq
  clear hq
  go_enter Tryd.func57, Tryd.ntmps57
  go_wp2
  all_goals go_ret
  · have h : n.tmod 2 < 0 := by assumption
    have h2 := hf.out
    have h3 := HQ.out
    rw [if_pos h] at h2
    refine ⟨?_, rfl⟩
    show Ending.returned (Value.int .i64 (wrap64 (n.tdiv 2 - 1))) = _
    rw [IntWalk.wrap64_in _ ⟨by omega, by omega⟩, h2]
  · have h : 0 ≤ n.tmod 2 := by assumption
    have h2 := hf.out
    rw [if_neg (by omega)] at h2
    refine ⟨?_, rfl⟩
    show Ending.returned (Value.int .i64 (n.tdiv 2)) = _
    rw [h2]
end Go.Proofs.YtnmfeonagigkeaaDoor
