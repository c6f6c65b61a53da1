namespace Go.Proofs.YtepjnkmmielamaaDoor

def bitsTo (us : List Int) (k j : Nat) : Int := 7 + ((us.take j).map fun u => u / 2 ^ k + 1 + (k : Int)).sum
def bitsF (us : List Int) (k : Nat) : Int := bitsTo us k 8

theorem bitsTo_zero (us : List Int) (k : Nat) : bitsTo us k 0 = 7 := by simp [bitsTo]
theorem bitsTo_step (us : List Int) (k j : Nat) (hj : j < us.length) : bitsTo us k (j + 1) = bitsTo us k j + (us.getD j 0 / 2 ^ k + 1 + (k : Int)) := by
  unfold bitsTo
  rw [List.take_succ_eq_append_getElem hj]
  simp only [List.map_append, List.sum_append, List.map_cons, List.map_nil, List.sum_cons, List.sum_nil, List.getD_eq_getElem?_getD, List.getElem?_eq_getElem hj, Option.getD_some]
  omega

/-- Every number of the list is from 0 to a million. -/
def Small (us : List Int) : Prop := ∀ j, 0 ≤ us.getD j 0 ∧ us.getD j 0 ≤ 1000000

theorem quo_bd (u : Int) (k : Nat) (h0 : 0 ≤ u) (h1 : u ≤ 1000000) : 0 ≤ u / 2 ^ k ∧ u / 2 ^ k ≤ 1000000 := by
  have hp : (0 : Int) < 2 ^ k := Int.pow_pos (by decide)
  have a := Int.ediv_nonneg h0 (Int.le_of_lt hp)
  have b := Int.ediv_le_self (b := 2 ^ k) h0
  omega

theorem bitsTo_bd (us : List Int) (k j : Nat) (hs : Small us) (hk : k ≤ 17) (hj : j ≤ us.length) : 7 ≤ bitsTo us k j ∧ bitsTo us k j ≤ 7 + 1000018 * j := by
  induction j with
  | zero => simp [bitsTo_zero]
  | succ j ih =>
    have h := ih (by omega)
    have q := quo_bd _ k (hs j).1 (hs j).2
    rw [bitsTo_step us k j (by omega)]
    omega

end Go.Proofs.YtepjnkmmielamaaDoor
