import Derived.Test.YtepjnkmmielamaaDoorM11
namespace Go.Proofs.YtepjnkmmielamaaDoor

/-- What BitsOf has made: zeros, and then the last bits of a number. -/
def bitRow (m c t : Nat) : List Int := List.replicate t 0 ++ (bitsOf m c).drop t
theorem bitRow_length (m c t : Nat) (h : t ≤ c) : (bitRow m c t).length = c := by
  simp only [bitRow, List.length_append, List.length_replicate, List.length_drop, bitsOf_length]; omega
theorem bitRow_zero (m c : Nat) : bitRow m c 0 = bitsOf m c := by simp [bitRow]
theorem bitRow_all (m c : Nat) : bitRow m c c = List.replicate c 0 := by
  simp [bitRow, bitsOf_length]
theorem bitRow_set (m c t : Nat) (h : t < c) : (bitRow m c (t + 1)).set t ((m / 2 ^ (c - 1 - t) % 2 : Nat) : Int) = bitRow m c t := by
  have e1 : bitRow m c (t + 1) = List.replicate t 0 ++ (0 :: (bitsOf m c).drop (t + 1)) := by
    simp [bitRow, List.replicate_succ', List.append_assoc]
  have e2 : (bitsOf m c).drop t = ((m / 2 ^ (c - 1 - t) % 2 : Nat) : Int) :: (bitsOf m c).drop (t + 1) := by
    rw [List.drop_eq_getElem_cons (by rw [bitsOf_length]; exact h)]
    congr 1
    simp [bitsOf]
  rw [e1, bitRow, e2, List.set_append_right _ _ (by simp)]
  simp

theorem bitsOf_mod (m c : Nat) : bitsOf (m % 2 ^ c) c = bitsOf m c := by
  induction c generalizing m with
  | zero => simp [bitsOf]
  | succ c ih =>
    have e : m % 2 ^ (c + 1) = m % 2 + 2 * (m / 2 % 2 ^ c) := by rw [Nat.pow_succ, Nat.mul_comm (2 ^ c) 2, Nat.mod_mul]
    have e1 : m % 2 ^ (c + 1) / 2 = m / 2 % 2 ^ c := by rw [e]; omega
    have e2 : m % 2 ^ (c + 1) % 2 = m % 2 := by rw [e]; omega
    rw [bitsOf_succ, bitsOf_succ, e1, e2, ih]

def pw (k : Nat) : Int := 2 ^ k
theorem pw_bd (k : Nat) (h : k ≤ 17) : 1 ≤ pw k ∧ pw k ≤ 131072 := by
  unfold pw
  exact (by decide : ∀ j : Fin 18, 1 ≤ (2 : Int) ^ j.val ∧ (2 : Int) ^ j.val ≤ 131072) ⟨k, by omega⟩
theorem pw_succ (k : Nat) : pw (k + 1) = 2 * pw k := by unfold pw; rw [Int.pow_succ]; omega

theorem pw_nat (k : Nat) : pw k = ((2 ^ k : Nat) : Int) := by unfold pw; simp
theorem expd_zero (xs : List Int) (i : Nat) : expd xs i 0 = 0 := by unfold expd expd2 expT pred0 pred1; simp
theorem expd_one_first (xs : List Int) : expd xs 0 1 = 0 := by unfold expd expd2 expT pred0 pred1; simp
theorem expd_one (xs : List Int) (q : Nat) : expd xs (q + 1) 1 = xs.getD q 0 := by
  unfold expd expd2 expT pred0 pred1
  simp
theorem expd_two_first (xs : List Int) : expd xs 0 2 = 0 := by unfold expd expd2 expT pred0 pred1; simp
theorem expd_two_second (xs : List Int) : expd xs 1 2 = 2 * xs.getD 0 0 := by unfold expd expd2 expT pred0 pred1; simp
theorem expd_two (xs : List Int) (q : Nat) : expd xs (q + 2) 2 = 2 * xs.getD (q + 1) 0 - xs.getD q 0 := by
  unfold expd expd2 expT pred0 pred1
  simp
  omega

end Go.Proofs.YtepjnkmmielamaaDoor
