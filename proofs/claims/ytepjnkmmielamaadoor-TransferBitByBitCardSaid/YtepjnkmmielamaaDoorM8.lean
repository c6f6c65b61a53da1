namespace Go.Proofs.YtepjnkmmielamaaDoor

/-- A number to the power that is the prime less 2 (sixteen ones in binary digits), modulo the prime. -/
def powTo (n : Int) : Nat → Int
  | 0 => 1
  | i + 1 => powTo n i * powTo n i % 65537 * n % 65537
def invT (n : Int) : Int := powTo n 16

theorem powTo_bd (n : Int) (i : Nat) : 0 ≤ powTo n i ∧ powTo n i < 65537 := by
  cases i with
  | zero => simp [powTo]
  | succ i => exact ⟨Int.emod_nonneg _ (by omega), Int.emod_lt_of_pos _ (by omega)⟩
theorem invT_bd (n : Int) : 0 ≤ invT n ∧ invT n < 65537 := powTo_bd n 16

theorem mul_bd2 (a b A B : Int) (ha : 0 ≤ a) (hb : 0 ≤ b) (hA : a ≤ A) (hB : b ≤ B) : 0 ≤ a * b ∧ a * b ≤ A * B :=
  ⟨Int.mul_nonneg ha hb, Int.mul_le_mul hA hB hb (Int.le_trans ha hA)⟩

end Go.Proofs.YtepjnkmmielamaaDoor
