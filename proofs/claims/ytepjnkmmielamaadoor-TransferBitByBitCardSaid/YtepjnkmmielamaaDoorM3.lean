namespace Go.Proofs.YtepjnkmmielamaaDoor

/-- Every number of the list has at most the size M. -/
def Bnd (xs : List Int) (M : Int) : Prop := ∀ j, -M ≤ xs.getD j 0 ∧ xs.getD j 0 ≤ M

def expT (xs : List Int) (i k : Nat) (f : Int) : Int := if k + 1 ≤ i then f * xs.getD (i - 1 - k) 0 else 0
def expd2 (xs : List Int) (i : Nat) (f0 f1 : Int) : Int := expT xs i 0 f0 + expT xs i 1 f1

theorem expT_bd (xs : List Int) (i k : Nat) (f M : Int) (h : Bnd xs M) (hM : 0 ≤ M) (h0 : -2 ≤ f) (h1 : f ≤ 2) : -(2 * M) ≤ expT xs i k f ∧ expT xs i k f ≤ 2 * M := by
  unfold expT
  split
  · have hb := h (i - 1 - k)
    generalize xs.getD (i - 1 - k) 0 = x at hb
    obtain rfl | rfl | rfl | rfl | rfl : f = -2 ∨ f = -1 ∨ f = 0 ∨ f = 1 ∨ f = 2 := by omega
    all_goals omega
  · omega

theorem mul_bd (f x M : Int) (hb : -M ≤ x ∧ x ≤ M) (hM : 0 ≤ M) (h0 : -2 ≤ f) (h1 : f ≤ 2) : -(2 * M) ≤ f * x ∧ f * x ≤ 2 * M := by
  obtain rfl | rfl | rfl | rfl | rfl : f = -2 ∨ f = -1 ∨ f = 0 ∨ f = 1 ∨ f = 2 := by omega
  all_goals omega

def pred0 (p : Nat) : Int := if p = 0 then 0 else if p = 1 then 1 else 2
def pred1 (p : Nat) : Int := if p = 0 then 0 else if p = 1 then 0 else -1
def expd (xs : List Int) (i p : Nat) : Int := expd2 xs i (pred0 p) (pred1 p)

theorem expd_bd (xs : List Int) (i p : Nat) (M : Int) (h : Bnd xs M) (hM : 0 ≤ M) : -(4 * M) ≤ expd xs i p ∧ expd xs i p ≤ 4 * M := by
  have h0 : -2 ≤ pred0 p ∧ pred0 p ≤ 2 := by unfold pred0; split <;> (try split) <;> omega
  have h1 : -2 ≤ pred1 p ∧ pred1 p ≤ 2 := by unfold pred1; split <;> (try split) <;> omega
  have a := expT_bd xs i 0 _ M h hM h0.1 h0.2
  have b := expT_bd xs i 1 _ M h hM h1.1 h1.2
  simp only [expd, expd2]
  omega

end Go.Proofs.YtepjnkmmielamaaDoor
