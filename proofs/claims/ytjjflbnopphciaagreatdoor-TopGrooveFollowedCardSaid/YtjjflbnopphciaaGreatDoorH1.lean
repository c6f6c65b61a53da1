namespace Go.Proofs.YtjjflbnopphciaaGreatDoor

/-- The columns beside a column, and it. -/
def nbrCount (c cols : Nat) : Nat := min (c + 1) (cols - 1) - (c - 1) + 1
def nbrs (c cols : Nat) : List Int := (List.range (nbrCount c cols)).map fun k => ((c - 1 + k : Nat) : Int)
theorem nbrs_length (c cols : Nat) : (nbrs c cols).length = nbrCount c cols := by simp [nbrs]
theorem nbrs_take (c cols k : Nat) (h : k < nbrCount c cols) : (nbrs c cols).take (k + 1) = (nbrs c cols).take k ++ [((c - 1 + k : Nat) : Int)] := by
  rw [List.take_succ_eq_append_getElem (by rw [nbrs_length]; exact h)]
  simp [nbrs]
theorem nbrs_all (c cols k : Nat) (h : nbrCount c cols ≤ k) : (nbrs c cols).take k = nbrs c cols := List.take_of_length_le (by rw [nbrs_length]; exact h)

def chStep (costs : List Int) (bend : Int) (c : Nat) (s : Int × Int) (x : Int) : Int × Int :=
  if costs.getD x.toNat 0 + (if x = c then 0 else bend) < s.2 then (x, costs.getD x.toNat 0 + (if x = c then 0 else bend)) else s
def chFrom (costs : List Int) (bend : Int) (c : Nat) (l : List Int) : Int × Int := l.foldl (chStep costs bend c) (0, 9223372036854775807)
def chp (costs : List Int) (bend : Int) (c cols : Nat) : Int × Int := chFrom costs bend c (nbrs c cols)
theorem chFrom_snoc (costs : List Int) (bend : Int) (c : Nat) (l : List Int) (x : Int) : chFrom costs bend c (l ++ [x]) = chStep costs bend c (chFrom costs bend c l) x := by simp [chFrom]

end Go.Proofs.YtjjflbnopphciaaGreatDoor
