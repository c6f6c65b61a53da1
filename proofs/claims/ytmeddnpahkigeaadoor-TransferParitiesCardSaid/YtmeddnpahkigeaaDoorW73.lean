import Derived.Test.YtmeddnpahkigeaaDoorW72
namespace Go.Proofs.YtmeddnpahkigeaaDoor
open Go.RowKit

/-- The last counter, as the machine adds it. -/
def lastC (k : Nat) (c : Int) : Int := IntKind.i64.wrap (IntKind.i64.wrap (c + (if (k : Int) < 1 then (1 : Int) else (k : Int))) - 1)
theorem lastC_ok (k : Nat) (c : Int) (hc : 0 ≤ c ∧ c ≤ 65535) (hk : k ≤ 1000) : lastC k c = c + ((k - 1 : Nat) : Int) := by
  unfold lastC
  have e : (if (k : Int) < 1 then (1 : Int) else (k : Int)) = ((k - 1 : Nat) : Int) + 1 := by split <;> omega
  rw [e, show IntKind.i64.wrap (c + (((k - 1 : Nat) : Int) + 1)) = c + (((k - 1 : Nat) : Int) + 1) from IntWalk.i64_in _ (by omega), show IntKind.i64.wrap (c + (((k - 1 : Nat) : Int) + 1) - 1) = c + (((k - 1 : Nat) : Int) + 1) - 1 from IntWalk.i64_in _ (by omega)]
  omega
theorem cutE_first (n : Nat) (xs : List Int) (h c : Int) (hn : n ≤ 7000) :
    firstE [whenE (decide (40 < cntN n)) 8, rangesE xs (-32767) 32767, rangeE h 0 3, rangeE c 0 65535, rangeE (lastC (cntN n) c) 0 65535] = cutE n xs h c := by
  have hk : cntN n ≤ 1000 := by unfold cntN; omega
  unfold cutE
  generalize cntN n = k at *
  by_cases h1 : 40 < k
  · rw [if_pos h1]; simp [whenE, h1, firstE]
  · rw [if_neg h1]
    simp only [whenE, h1, decide_false, Bool.false_eq_true, if_false]
    rcases rangesE_cases xs (-32767) 32767 with e1 | e1
    · have es : smpB xs = true := by simp [smpB, e1]
      rw [es, e1]
      rcases rangeE_two h 0 3 with e2 | e2
      · rw [e2]
        by_cases h3 : inB c 0 65535 = true
        · have hc : 0 ≤ c ∧ c ≤ 65535 := by simp [inB] at h3; omega
          rw [show rangeE c 0 65535 = 0 by simp [rangeE, h3], lastC_ok k c hc hk, h3]
          by_cases h4 : 65535 < c + ((k - 1 : Nat) : Int)
          · rw [if_pos h4]; simp [rangeE, inB, firstE]; omega
          · rw [if_neg h4]; simp [rangeE, inB, firstE]; omega
        · have h3' : inB c 0 65535 = false := by simpa using h3
          rw [show rangeE c 0 65535 = 2 by simp [rangeE, h3'], h3']
          simp [firstE]
      · rw [e2]; simp [firstE]
    · have es : smpB xs = false := by simp [smpB, e1]
      rw [es, e1]; simp [firstE]

end Go.Proofs.YtmeddnpahkigeaaDoor
