import Derived.Test.YtnmfeonagigkeaaR5
import Derived.Test.YtnmfeonagigkeaaP2
namespace Go.Proofs.Ytnmfeonagigkeaa
open Go.RowKit

/-- The error of a ring. -/
def hasB (rows : List (List Int)) (cx cy r : Int) : Bool := fromB r (((rows.getD 0 []).length : Int) - 1 - r) [cx] && fromB r ((rows.length : Int) - 1 - r) [cy]
def ringE (rows : List (List Int)) (cx cy r : Int) : Int :=
  if gridE 24 24 rows = 0 then (if fromB 1 24 [r] = true then (if hasB rows cx cy r = true then 0 else 23) else 2) else gridE 24 24 rows

theorem rowsE_zero {cols : Nat} {lo hi : Int} : ∀ {rows : List (List Int)}, rowsE cols lo hi rows = 0 → ∀ r ∈ rows, r.length = cols ∧ fromB lo hi r = true
  | [], _, r, h => by simp at h
  | a :: l, h, r, hr => by
    have ha : rowE cols lo hi a = 0 := by
      unfold rowsE at h
      split at h
      · assumption
      · exact h
    have h' : rowsE cols lo hi l = 0 := by unfold rowsE at h; rw [if_pos ha] at h; exact h
    rcases List.mem_cons.1 hr with rfl | hr
    · unfold rowE at ha
      split at ha
      · rename_i hl
        split at ha
        · rename_i hf; exact ⟨hl, hf⟩
        · omega
      · omega
    · exact rowsE_zero h' r hr
theorem grid_ok {R C : Nat} {rows : List (List Int)} (h : gridE R C rows = 0) : ∃ m, 0 < rows.length ∧ 0 < m ∧ rows.length ≤ R ∧ m ≤ C ∧ (rows.getD 0 []).length = m ∧ ∀ r ∈ rows, r.length = m ∧ fromB 0 255 r = true := by
  cases rows with
  | nil => simp [gridE] at h
  | cons r rs =>
    have e : gridE R C (r :: rs) = if r.length = 0 then 10 else if R < rs.length + 1 ∨ C < r.length then 8 else rowsE r.length 0 255 (r :: rs) := rfl
    rw [e] at h
    by_cases h0 : r.length = 0
    · rw [if_pos h0] at h; omega
    · rw [if_neg h0] at h
      by_cases h1 : R < rs.length + 1 ∨ C < r.length
      · rw [if_pos h1] at h; omega
      · rw [if_neg h1] at h
        exact ⟨r.length, by simp, by omega, by simp; omega, by omega, by simp, rowsE_zero h⟩
theorem fromB_one {lo hi x : Int} : fromB lo hi [x] = true ↔ lo ≤ x ∧ x ≤ hi := by simp [fromB]
theorem ring_in {cx cy : Int} {r : Nat} {p : Int × Int} (h : p ∈ ringTo cx cy r 5) : cx - r ≤ p.1 ∧ p.1 ≤ cx + r ∧ cy - r ≤ p.2 ∧ p.2 ≤ cy + r := by
  simp only [ringTo, List.nil_append, List.append_assoc, List.mem_append, sideTo, List.mem_map, List.mem_range, sd, sds, List.getD_cons_zero, List.getD_cons_succ, ptOf, startOf] at h
  rcases h with ⟨k, hk, rfl⟩ | ⟨k, hk, rfl⟩ | ⟨k, hk, rfl⟩ | ⟨k, hk, rfl⟩ | ⟨k, hk, rfl⟩ <;> dsimp only <;> omega

/-- What RingOf returns besides its error. -/
def ringX (rows : List (List Int)) (cx cy r : Int) : List Int := if ringE rows cx cy r = 0 then (ringTo cx cy r.toNat 5).map (pix rows) else []
theorem ringX_err {rows : List (List Int)} {cx cy r : Int} (h : ringE rows cx cy r ≠ 0) : ringX rows cx cy r = [] := if_neg h

end Go.Proofs.Ytnmfeonagigkeaa
