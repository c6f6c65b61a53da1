import Derived.Test.YtepjnkmmielamaaDoorM4
import Derived.Test.YtepjnkmmielamaaDoorM2
namespace Go.Proofs.YtepjnkmmielamaaDoor

theorem fold1_bd (r : Int) (h0 : -163835 ≤ r) (h1 : r ≤ 163835) : 0 ≤ fold1 r ∧ fold1 r ≤ 1000000 := by
  unfold fold1
  split <;> omega

theorem foldeds_small (xs : List Int) (p : Nat) (h : Bnd xs 32767) : Small (foldeds xs p) := by
  intro j
  rcases Nat.lt_or_ge j 8 with hj | hj
  · rw [foldeds_at xs p j hj]
    have a := h j
    have b := expd_bd xs j p 32767 h (by omega)
    exact fold1_bd _ (by omega) (by omega)
  · have e : (foldeds xs p).getD j 0 = 0 := by
      rw [List.getD_eq_getElem?_getD, List.getElem?_eq_none (by rw [foldeds_length]; exact hj)]
      rfl
    rw [e]; omega

def stepS (xs : List Int) (s : Nat × Nat × Int) (p k : Nat) : Nat × Nat × Int :=
  if bitsF (foldeds xs p) k < s.2.2 then (p, k, bitsF (foldeds xs p) k) else s
def innerS (xs : List Int) (s : Nat × Nat × Int) (p : Nat) : Nat → Nat × Nat × Int
  | 0 => s
  | k + 1 => stepS xs (innerS xs s p k) p k
def outerS (xs : List Int) (s : Nat × Nat × Int) : Nat → Nat × Nat × Int
  | 0 => s
  | p + 1 => innerS xs (outerS xs s p) p 18
def startS (xs : List Int) : Nat × Nat × Int := (0, 0, bitsF (foldeds xs 0) 0)
def shortS (xs : List Int) : Nat × Nat × Int := outerS xs (startS xs) 3

/-- What every state of the search is. -/
def GoodS (xs : List Int) (s : Nat × Nat × Int) : Prop := s.1 < 3 ∧ s.2.1 < 18 ∧ s.2.2 = bitsF (foldeds xs s.1) s.2.1

theorem GoodS.start (xs : List Int) : GoodS xs (startS xs) := ⟨by simp [startS], by simp [startS], rfl⟩
theorem GoodS.step {xs : List Int} {s : Nat × Nat × Int} (h : GoodS xs s) (p k : Nat) (hp : p < 3) (hk : k < 18) : GoodS xs (stepS xs s p k) := by
  unfold stepS
  split
  · exact ⟨hp, hk, rfl⟩
  · exact h
theorem GoodS.inner {xs : List Int} {s : Nat × Nat × Int} (h : GoodS xs s) (p : Nat) (hp : p < 3) (k : Nat) (hk : k ≤ 18) : GoodS xs (innerS xs s p k) := by
  induction k with
  | zero => exact h
  | succ k ih => exact (ih (by omega)).step p k hp (by omega)
theorem GoodS.outer {xs : List Int} {s : Nat × Nat × Int} (h : GoodS xs s) (p : Nat) (hp : p ≤ 3) : GoodS xs (outerS xs s p) := by
  induction p with
  | zero => exact h
  | succ p ih => exact (ih (by omega)).inner p (by omega) 18 (by omega)
theorem shortS_good (xs : List Int) : GoodS xs (shortS xs) := (GoodS.start xs).outer 3 (by omega)
theorem GoodS.bd {xs : List Int} {s : Nat × Nat × Int} (h : GoodS xs s) (hb : Bnd xs 32767) : 7 ≤ s.2.2 ∧ s.2.2 ≤ 9000000 := by
  have := bitsTo_bd (foldeds xs s.1) s.2.1 8 (foldeds_small xs _ hb) (by have := h.2.1; omega) (by rw [foldeds_length]; omega)
  rw [h.2.2]
  unfold bitsF
  omega
theorem bitsF_bd (xs : List Int) (p k : Nat) (hb : Bnd xs 32767) (hk : k < 18) : 7 ≤ bitsF (foldeds xs p) k ∧ bitsF (foldeds xs p) k ≤ 9000000 := by
  have := bitsTo_bd (foldeds xs p) k 8 (foldeds_small xs _ hb) (by omega) (by rw [foldeds_length]; omega)
  unfold bitsF
  omega

end Go.Proofs.YtepjnkmmielamaaDoor
