import Derived.Test.YtmeddnpahkigeaaDoorW59
namespace Go.Proofs.YtmeddnpahkigeaaDoor
open Go.RowKit

theorem parE_bad (p k : Int) (h : ¬ (0 ≤ p ∧ p ≤ 2 ∧ 0 ≤ k ∧ k ≤ 17)) : parE p k = 2 := by
  unfold parE inB
  rw [if_neg]
  simp
  omega

end Go.Proofs.YtmeddnpahkigeaaDoor
