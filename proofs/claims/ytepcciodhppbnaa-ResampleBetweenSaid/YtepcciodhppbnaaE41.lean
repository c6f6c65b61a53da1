import Derived.Test.YtepcciodhppbnaaE40

namespace Go.Proofs.Ytepcciodhppbnaa
open Go.RowKit

theorem upF_le {n k B : Int} (hk : 0 < k) : upF n k ≤ B ↔ n ≤ B * k := by
  unfold upF
  have h := Int.le_ediv_iff_mul_le (a := -B) (b := -n) hk
  rw [Int.neg_mul] at h
  constructor
  · intro h1; have := h.1 (by omega); omega
  · intro h1; have := h.2 (by omega); omega
theorem isB_iff {f s d a b : Int} (hd : 0 < d) (hst : 0 < d - strF f s) : isB f s d a b = decide (upF (a * d) (d - strF f s) ≤ b) := by
  unfold isB
  apply decide_eq_decide.2
  have h1 := upF_le (n := strF f s * b) (k := d) (B := b - a) hd
  have h2 := upF_le (n := a * d) (k := d - strF f s) (B := b) hst
  rw [Int.sub_mul] at h1
  rw [Int.mul_sub] at h2
  rw [Int.mul_comm b (strF f s)] at h2
  constructor
  · intro h; exact h2.2 (by have := h1.1 (by omega); omega)
  · intro h; have := h1.2 (by have := h2.1 h; omega); omega
theorem stab_facts {f s d m : Int} (hd : 1 ≤ d ∧ d ≤ 1000) (hm : 0 ≤ m ∧ m ≤ 32767) (hst : 0 < d - strF f s) :
    (0 ≤ upF (m * d) (d - strF f s) ∧ upF (m * d) (d - strF f s) ≤ 32767000) ∧ strF f s * upF (m * d) (d - strF f s) ≤ (upF (m * d) (d - strF f s) - m) * d := by
  have hmd := mul_bd (a := m) (b := d) (A := 32767) (B := 1000) (by omega) (by omega) (by omega) (by omega)
  have hmd0 : 0 ≤ m * d := Int.mul_nonneg (by omega) (by omega)
  obtain ⟨B, hB⟩ : ∃ B, upF (m * d) (d - strF f s) = B := ⟨_, rfl⟩
  have h1 := upF_le (n := m * d) (k := d - strF f s) (B := B) hst
  have h2 := upF_le (n := m * d) (k := d - strF f s) (B := 32767000) hst
  have h3 := upF_le (n := m * d) (k := d - strF f s) (B := -1) hst
  rw [hB] at h1 h2 h3 ⊢
  have e1 : 32767000 * 1 ≤ 32767000 * (d - strF f s) := Int.mul_le_mul_of_nonneg_left (by omega) (by omega)
  have h4 := h1.1 (Int.le_refl _)
  rw [Int.mul_sub, Int.mul_comm B (strF f s)] at h4
  rw [Int.sub_mul]
  refine ⟨⟨?_, h2.2 (by omega)⟩, by omega⟩
  rcases (by omega : B < 0 ∨ 0 ≤ B) with h | h
  · have := h3.1 (by omega); omega
  · exact h

end Go.Proofs.Ytepcciodhppbnaa
