namespace Go.Proofs.YtepjnkmmielamaaDoor

/-- The lowest 'c' bits of n, the highest of them first. -/
def bitsOf (n c : Nat) : List Int := (List.range c).map fun i => ((n / 2 ^ (c - 1 - i) % 2 : Nat) : Int)

theorem bitsOf_length (n c : Nat) : (bitsOf n c).length = c := by simp [bitsOf]
theorem bitsOf_take (n c k : Nat) (hk : k < c) : (bitsOf n c).take (k + 1) = (bitsOf n c).take k ++ [((n / 2 ^ (c - 1 - k) % 2 : Nat) : Int)] := by
  rw [List.take_succ_eq_append_getElem (by rw [bitsOf_length]; exact hk)]
  simp [bitsOf]

end Go.Proofs.YtepjnkmmielamaaDoor
