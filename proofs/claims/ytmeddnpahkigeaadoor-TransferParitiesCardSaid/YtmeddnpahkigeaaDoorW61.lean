import Derived.Test.YtmeddnpahkigeaaDoorW60
namespace Go.Proofs.YtmeddnpahkigeaaDoor
open Go.RowKit

theorem rd_own63 {w : World} {base : Nat} {e : TypeId} {v : Value} {n : Nat} {xs : List Int} (h : w.ownsRow base e 1 v n (xs.map (Value.int .i64))) (h0 : 0 < n) :
    ∃ ad c, v = .slice (some ad) n c ∧ n ≤ c ∧ c ≤ 9223372036854775807 ∧ ad.block < w.heap.size ∧ RdI w (some ad) n xs := by
  obtain ⟨A, c, hv, hnc, hr⟩ := rd_of_own h
  obtain ⟨ad, rfl, hlt, _⟩ := hr.2 h0
  refine ⟨ad, c, hv, hnc, ?_, hlt, hr⟩
  rcases h.2 with ⟨h1, _⟩ | ⟨g, cap, cur, h1, _, _, _, hm, _⟩
  · rw [hv] at h1; cases h1
  · rw [hv] at h1; cases h1; unfold maxLen at hm; omega
def resT (l : List Int) (k j : Nat) : List Int := (numsU l k j).map unfold1
theorem resT_succ (l : List Int) (k j : Nat) : resT l k (j + 1) = resT l k j ++ [unfold1 (stepU (restR l k j) k)] := by simp [resT, numsU]
theorem resT_length (l : List Int) (k j : Nat) : (resT l k j).length = j := by simp [resT, numsU_length]

end Go.Proofs.YtmeddnpahkigeaaDoor
