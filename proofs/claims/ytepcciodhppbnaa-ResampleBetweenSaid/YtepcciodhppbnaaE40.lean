import Derived.Test.YtepcciodhppbnaaE30

namespace Go.Proofs.Ytepcciodhppbnaa
open Go.RowKit

/-! ### equalizers as mathematics -/
/-- What the next output contains of the earlier ones. -/
def echoF (f s d a b : Int) : Int := (f * a + s * b) / d
/-- The outputs up to one that is too great, and the error. -/
def eqR (f s d : Int) : Int → Int → List Int → List Int × Int
  | _, _, [] => ([], 0)
  | a, b, x :: l => if absF (x + echoF f s d a b) ≤ 1000000000000000 then ((x + echoF f s d a b) :: (eqR f s d (x + echoF f s d a b) a l).1, (eqR f s d (x + echoF f s d a b) a l).2) else ([], 23)
def rsR (f s d : Int) : Int → Int → List Int → List Int
  | _, _, [] => []
  | a, b, y :: l => (y - echoF f s d a b) :: rsR f s d y a l
/-- The output of an equalizer: it, and the error. -/
def eqO (f s d : Int) (xs : List Int) : List Int := if (eqR f s d 0 0 xs).2 = 0 then (eqR f s d 0 0 xs).1 else []
theorem eqR_01 (f s d : Int) : ∀ (xs : List Int) (a b : Int), (eqR f s d a b xs).2 = 0 ∨ (eqR f s d a b xs).2 = 23
  | [], a, b => .inl rfl
  | x :: l, a, b => by
    unfold eqR
    split
    · exact eqR_01 f s d l _ _
    · exact .inr rfl
theorem absF_le {n m : Int} : absF n ≤ m ↔ -m ≤ n ∧ n ≤ m := by unfold absF; split <;> omega
theorem rsR_len (f s d : Int) : ∀ (xs : List Int) (a b : Int), (rsR f s d a b xs).length = xs.length
  | [], a, b => rfl
  | x :: l, a, b => by simp [rsR, rsR_len f s d l]
theorem eqR_len (f s d : Int) : ∀ (xs : List Int) (a b : Int), (eqR f s d a b xs).2 = 0 → (eqR f s d a b xs).1.length = xs.length
  | [], a, b, _ => rfl
  | x :: l, a, b, h => by
    unfold eqR at h ⊢
    split
    · rename_i h1
      rw [if_pos h1] at h
      simp [eqR_len f s d l _ _ h]
    · rename_i h1
      rw [if_neg h1] at h
      cases h
/-- An input that is restored gives the output again. -/
theorem eqR_rsR (f s d : Int) : ∀ (ys : List Int) (a b : Int), (∀ y ∈ ys, absF y ≤ 1000000000000000) → eqR f s d a b (rsR f s d a b ys) = (ys, 0)
  | [], a, b, _ => rfl
  | y :: l, a, b, h => by
    have e : y - echoF f s d a b + echoF f s d a b = y := by omega
    have ih := eqR_rsR f s d l y a (fun z hz => h z (List.mem_cons_of_mem _ hz))
    simp only [rsR, eqR, e, ih]
    rw [if_pos (h y List.mem_cons_self)]
/-- An output gives its input again. -/
theorem rsR_eqR (f s d : Int) : ∀ (xs : List Int) (a b : Int), (eqR f s d a b xs).2 = 0 → rsR f s d a b (eqR f s d a b xs).1 = xs
  | [], a, b, _ => rfl
  | x :: l, a, b, h => by
    unfold eqR at h ⊢
    split
    · rename_i h1
      rw [if_pos h1] at h
      simp only [rsR]
      rw [rsR_eqR f s d l _ _ h]
      have e : x + echoF f s d a b - echoF f s d a b = x := by omega
      rw [e]
    · rename_i h1
      rw [if_neg h1] at h
      cases h
/-- Outputs are small. -/
theorem eqR_small (f s d : Int) : ∀ (xs : List Int) (a b : Int), ∀ y ∈ (eqR f s d a b xs).1, absF y ≤ 1000000000000000
  | [], a, b, y, hy => by simp [eqR] at hy
  | x :: l, a, b, y, hy => by
    unfold eqR at hy
    split at hy
    · rename_i h1
      rcases List.mem_cons.1 hy with rfl | hy
      · exact h1
      · exact eqR_small f s d l _ _ y hy
    · simp at hy
/-- Equal beginnings have equal beginnings. -/
theorem eqR_take (f s d : Int) : ∀ (xs : List Int) (k : Nat) (a b : Int), (eqR f s d a b xs).2 = 0 → eqR f s d a b (xs.take k) = ((eqR f s d a b xs).1.take k, 0)
  | xs, 0, a, b, h => by simp [eqR]
  | [], k + 1, a, b, h => by simp [eqR]
  | x :: l, k + 1, a, b, h => by
    unfold eqR at h
    split at h
    · rename_i h1
      rw [List.take_succ_cons]
      have ih := eqR_take f s d l k _ _ h
      have e1 : eqR f s d a b (x :: l) = ((x + echoF f s d a b) :: (eqR f s d (x + echoF f s d a b) a l).1, (eqR f s d (x + echoF f s d a b) a l).2) := by rw [eqR, if_pos h1]
      rw [e1, eqR, if_pos h1, ih]
      simp
    · cases h
theorem mul_abs_bd {f a A B : Int} (hf : absF f = A) (ha : -B ≤ a ∧ a ≤ B) : -(A * B) ≤ f * a ∧ f * a ≤ A * B := by
  have h0 := absF_bd f A (absF_le.1 (Int.le_of_eq hf))
  exact mul_bd (absF_le.1 (Int.le_of_eq hf)) ha (by omega) (by omega)
/-- What is bounded stays so. -/
theorem echo_bd {f s d a b B m : Int} (hd : 0 < d) (hB : 0 ≤ B) (hm : strF f s * B ≤ (B - m) * d) (ha : -B ≤ a ∧ a ≤ B) (hb : -B ≤ b ∧ b ≤ B) : -(B - m) ≤ echoF f s d a b ∧ echoF f s d a b ≤ B - m := by
  have h1 := mul_abs_bd (f := f) rfl ha
  have h2 := mul_abs_bd (f := s) rfl hb
  have e : strF f s * B = absF f * B + absF s * B := by unfold strF; rw [Int.add_mul]
  rw [e] at hm
  unfold echoF
  constructor
  · rw [Int.le_ediv_iff_mul_le hd, Int.neg_mul]
    omega
  · have : (f * a + s * b) / d < B - m + 1 := by
      rw [Int.ediv_lt_iff_lt_mul hd, Int.add_mul]
      omega
    omega
theorem eqR_bounded (f s d : Int) {B m : Int} (hd : 0 < d) (hB : 0 ≤ B) (hB2 : B ≤ 1000000000000000) (hm : strF f s * B ≤ (B - m) * d) :
    ∀ (xs : List Int) (a b : Int), (-B ≤ a ∧ a ≤ B) → (-B ≤ b ∧ b ≤ B) → (∀ x ∈ xs, -m ≤ x ∧ x ≤ m) → (eqR f s d a b xs).2 = 0 ∧ ∀ y ∈ (eqR f s d a b xs).1, -B ≤ y ∧ y ≤ B
  | [], a, b, _, _, _ => ⟨rfl, by simp [eqR]⟩
  | x :: l, a, b, ha, hb, hx => by
    have h1 := echo_bd hd hB hm ha hb
    have h2 := hx x List.mem_cons_self
    have h3 : -B ≤ x + echoF f s d a b ∧ x + echoF f s d a b ≤ B := by omega
    have ih := eqR_bounded f s d hd hB hB2 hm l (x + echoF f s d a b) a h3 ha (fun z hz => hx z (List.mem_cons_of_mem _ hz))
    have h4 : absF (x + echoF f s d a b) ≤ 1000000000000000 := absF_le.2 (by omega)
    rw [eqR, if_pos h4]
    refine ⟨ih.1, fun y hy => ?_⟩
    rcases List.mem_cons.1 hy with rfl | hy
    · exact h3
    · exact ih.2 y hy

end Go.Proofs.Ytepcciodhppbnaa
