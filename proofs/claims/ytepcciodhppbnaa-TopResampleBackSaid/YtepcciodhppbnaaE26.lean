import Derived.Test.YtepcciodhppbnaaE25

namespace Go.Proofs.Ytepcciodhppbnaa
open Go.RowKit

theorem bad_facts {f s d a b D : Int} (h : eqaE f s d a = D) (hD : ¬ D = 0) : stbE f s d a = D ∧ stbN f s d a = 0 ∧ ckbE f s d a b = D := by
  have h1 : stbE f s d a = D := by unfold stbE; rw [h, if_neg hD]
  refine ⟨h1, ?_, ?_⟩
  · unfold stbN; rw [h1, if_neg hD]
  · have h2 : chbE f s d a b = D := by
      rw [← h]
      unfold chbE eqaE
      by_cases e1 : eqzE f s d = 0
      · by_cases e2 : ampE a = 0
        · exfalso; apply hD; rw [← h]; simp [eqaE, firstNZ, e1, e2]
        · simp [firstNZ, e1, e2]
      · simp [firstNZ, e1]
    unfold ckbE; rw [h2, if_neg hD]
theorem eqaE_one {f s d a : Int} (h : ¬ eqzE f s d = 0) : eqaE f s d a = eqzE f s d := by simp [eqaE, firstNZ, h]
theorem eqaE_two {f s d a : Int} (h : eqzE f s d = 0) : eqaE f s d a = ampE a := by
  by_cases h2 : ampE a = 0 <;> simp [eqaE, firstNZ, h, h2]
theorem good_stb {f s d a : Int} (h : eqaE f s d a = 0) : stbE f s d a = (if d - strF f s ≤ 0 then 22 else 0) ∧ stbN f s d a = (if d - strF f s ≤ 0 then 0 else upF (a * d) (d - strF f s)) := by
  have h1 : stbE f s d a = (if d - strF f s ≤ 0 then 22 else 0) := by unfold stbE; rw [if_pos h]
  refine ⟨h1, ?_⟩
  unfold stbN
  rw [h1]
  by_cases h2 : d - strF f s ≤ 0 <;> simp [h2]
theorem good_ckb {f s d a b : Int} (h : eqaE f s d a = 0) : ckbE f s d a b = if fromB 0 1000000000000000 [b] = true then (if isB f s d a b = true then 0 else 19) else 2 := by
  have h0 := h
  have hz := eqaE_zero h
  have e1 : eqzE f s d = 0 := firstNZ_zero h (eqzE f s d) (by simp)
  have e2 : ampE a = 0 := firstNZ_zero h (ampE a) (by simp)
  have h2 : chbE f s d a b = if fromB 0 1000000000000000 [b] = true then 0 else 2 := by
    unfold chbE bndE rngE
    by_cases h3 : fromB 0 1000000000000000 [b] = true <;> simp [firstNZ, e1, e2, h3]
  unfold ckbE
  rw [h2]
  by_cases h3 : fromB 0 1000000000000000 [b] = true
  · rw [if_pos h3, if_pos h3, if_pos rfl]
  · rw [if_neg h3, if_neg h3, if_neg (by omega)]

end Go.Proofs.Ytepcciodhppbnaa
