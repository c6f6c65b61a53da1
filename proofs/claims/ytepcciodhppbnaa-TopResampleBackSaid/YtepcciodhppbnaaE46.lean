import Derived.Test.YtepcciodhppbnaaE45

namespace Go.Proofs.Ytepcciodhppbnaa
open Go.RowKit

theorem backF_1 (ys : List Int) (k : Nat) : backF ys (k + 1) 1 = ys.getD k 0 := rfl
theorem backF_2 (ys : List Int) (k : Nat) : backF ys (k + 1) 2 = backF ys k 1 := by
  unfold backF
  by_cases h : 1 ≤ k
  · rw [if_pos h, if_pos (by omega), show k + 1 - 2 = k - 1 by omega]
  · rw [if_neg h, if_neg (by omega)]
theorem backF_s1 {ys : List Int} {k : Nat} (y : Int) (h : ys.length = k) : backF (ys ++ [y]) (k + 1) 1 = y := by
  rw [backF_1, List.getD_eq_getElem?_getD, ← h, List.getElem?_concat_length]; rfl
theorem backF_s2 {ys : List Int} {k : Nat} (y : Int) (h : ys.length = k) : backF (ys ++ [y]) (k + 1) 2 = backF ys k 1 := by
  rw [backF_2]
  unfold backF
  by_cases h1 : 1 ≤ k
  · rw [if_pos h1, if_pos h1, List.getD_eq_getElem?_getD, List.getD_eq_getElem?_getD, List.getElem?_append_left (by omega)]
  · rw [if_neg h1, if_neg h1]
theorem backF_0 (ys : List Int) : backF ys 0 1 = 0 ∧ backF ys 0 2 = 0 := ⟨rfl, rfl⟩

end Go.Proofs.Ytepcciodhppbnaa
