import Derived.Test.YtnmfeonagigkeaaB4
import Derived.Test.YtnmfeonagigkeaaB5
namespace Go.Proofs.Ytnmfeonagigkeaa
open Go.RowKit

def brE (xs : List Int) (gs : List (Int × Int)) : Int := if posE xs = 0 then gapsE (xs.length : Nat) gs else posE xs
def brL (xs : List Int) (gs : List (Int × Int)) : List Int := if brE xs gs = 0 then bridgedL xs gs else []
theorem pos_ok {xs : List Int} (h : posE xs = 0) : xs.length ≤ 200 ∧ Small xs := by
  unfold posE at h
  by_cases h1 : 200 < xs.length
  · rw [if_pos h1] at h; omega
  · rw [if_neg h1] at h
    by_cases h2 : fromB (-1000000) 1000000 xs = true
    · refine ⟨by omega, fun x hx => ?_⟩
      unfold fromB at h2
      rw [List.all_eq_true] at h2
      simpa using h2 x hx
    · rw [if_neg h2] at h; omega

end Go.Proofs.Ytnmfeonagigkeaa
