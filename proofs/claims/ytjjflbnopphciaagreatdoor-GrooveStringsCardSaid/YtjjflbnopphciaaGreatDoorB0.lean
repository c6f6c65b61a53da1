namespace Go.Proofs.YtjjflbnopphciaaGreatDoor

theorem mul_bd {x t M T : Int} (h1 : -M ≤ x) (h2 : x ≤ M) (h3 : 0 ≤ t) (h4 : t ≤ T) (hM : 0 ≤ M) : -(M * T) ≤ x * t ∧ x * t ≤ M * T := by
  have a := Int.mul_le_mul_of_nonneg_right h2 h3
  have b := Int.mul_le_mul_of_nonneg_right h1 h3
  have c := Int.mul_le_mul_of_nonneg_left h4 hM
  rw [Int.neg_mul] at b
  omega

/-- The number between a and b at t parts of T. -/
def lerp (a b t T : Int) : Int := a + (b - a) * t / T
theorem lerp_bd (a b t T : Int) (hT : 0 < T) (h0 : 0 ≤ t) (h1 : t ≤ T) : (a ≤ b → a ≤ lerp a b t T ∧ lerp a b t T ≤ b) ∧ (b ≤ a → b ≤ lerp a b t T ∧ lerp a b t T ≤ a) := by
  unfold lerp
  refine ⟨fun h => ?_, fun h => ?_⟩
  · have h2 : 0 ≤ (b - a) * t := Int.mul_nonneg (by omega) h0
    have h3 : (b - a) * t ≤ (b - a) * T := Int.mul_le_mul_of_nonneg_left h1 (by omega)
    have h4 : 0 ≤ (b - a) * t / T := Int.ediv_nonneg h2 (by omega)
    have h5 : (b - a) * t / T ≤ b - a := Int.ediv_le_of_le_mul hT h3
    omega
  · have h2 : (b - a) * t ≤ 0 * T := by
      have := Int.mul_nonneg (a := a - b) (b := t) (by omega) h0
      have e : (a - b) * t = -((b - a) * t) := by rw [← Int.neg_mul]; congr 1; omega
      omega
    have h3 : (b - a) * T ≤ (b - a) * t := by
      have := Int.mul_le_mul_of_nonneg_left (c := a - b) h1 (by omega)
      have e : (a - b) * t = -((b - a) * t) := by rw [← Int.neg_mul]; congr 1; omega
      have e2 : (a - b) * T = -((b - a) * T) := by rw [← Int.neg_mul]; congr 1; omega
      omega
    have h4 : (b - a) * t / T ≤ 0 := Int.ediv_le_of_le_mul hT h2
    have h5 : b - a ≤ (b - a) * t / T := Int.le_ediv_of_mul_le hT h3
    omega

/-- The positions before and after a gap. -/
def endsL (xs : List Int) (lo hi : Nat) : Int × Int :=
  if lo = 0 then (xs.getD (hi + 1) 0, xs.getD (hi + 1) 0) else if hi + 1 = xs.length then (xs.getD (lo - 1) 0, xs.getD (lo - 1) 0) else (xs.getD (lo - 1) 0, xs.getD (hi + 1) 0)
def bridgeAt (p : Int × Int) (lo hi i : Nat) : Int := lerp p.1 p.2 ((i : Int) - ((lo : Int) - 1)) (((hi : Int) + 1) - ((lo : Int) - 1))
def bridgeTo (p : Int × Int) (xs : List Int) (lo hi k : Nat) : List Int := (List.range xs.length).map fun i => if lo ≤ i ∧ i < lo + k then bridgeAt p lo hi i else xs.getD i 0
def bridgeL (xs : List Int) (lo hi : Nat) : List Int := bridgeTo (endsL xs lo hi) xs lo hi (hi + 1 - lo)
theorem bridgeTo_length (p : Int × Int) (xs : List Int) (lo hi k : Nat) : (bridgeTo p xs lo hi k).length = xs.length := by simp [bridgeTo]
theorem bridgeTo_zero (p : Int × Int) (xs : List Int) (lo hi : Nat) : bridgeTo p xs lo hi 0 = xs := by
  apply List.ext_getElem
  · simp [bridgeTo]
  · intro i h1 h2
    simp only [bridgeTo, List.getElem_map, List.getElem_range]
    rw [if_neg (by omega), List.getD_eq_getElem?_getD, List.getElem?_eq_getElem h2]; rfl
theorem bridgeTo_set (p : Int × Int) (xs : List Int) (lo hi k : Nat) : (bridgeTo p xs lo hi k).set (lo + k) (bridgeAt p lo hi (lo + k)) = bridgeTo p xs lo hi (k + 1) := by
  apply List.ext_getElem
  · simp [bridgeTo]
  · intro i h1 h2
    rw [List.getElem_set]
    by_cases e : lo + k = i
    · subst e
      simp only [bridgeTo, List.getElem_map, List.getElem_range, if_true]
      rw [if_pos (by omega)]
    · rw [if_neg e]
      simp only [bridgeTo, List.getElem_map, List.getElem_range]
      by_cases h : lo ≤ i ∧ i < lo + k
      · rw [if_pos h, if_pos (by omega)]
      · rw [if_neg h, if_neg (by omega)]
def Small (xs : List Int) : Prop := ∀ x ∈ xs, -1000000 ≤ x ∧ x ≤ 1000000
theorem Small.at_ {xs : List Int} (h : Small xs) (i : Nat) : -1000000 ≤ xs.getD i 0 ∧ xs.getD i 0 ≤ 1000000 := by
  rcases Nat.lt_or_ge i xs.length with h1 | h1
  · rw [List.getD_eq_getElem?_getD, List.getElem?_eq_getElem h1]; exact h _ (List.getElem_mem _)
  · rw [List.getD_eq_getElem?_getD, List.getElem?_eq_none h1]; decide
theorem Small.ends {xs : List Int} (h : Small xs) (lo hi : Nat) : (-1000000 ≤ (endsL xs lo hi).1 ∧ (endsL xs lo hi).1 ≤ 1000000) ∧ -1000000 ≤ (endsL xs lo hi).2 ∧ (endsL xs lo hi).2 ≤ 1000000 := by
  unfold endsL
  split
  · exact ⟨h.at_ _, h.at_ _⟩
  · split
    · exact ⟨h.at_ _, h.at_ _⟩
    · exact ⟨h.at_ _, h.at_ _⟩
theorem bridgeAt_bd {p : Int × Int} (h : (-1000000 ≤ p.1 ∧ p.1 ≤ 1000000) ∧ -1000000 ≤ p.2 ∧ p.2 ≤ 1000000) {lo hi i : Nat} (h1 : lo ≤ i) (h2 : i ≤ hi) : -1000000 ≤ bridgeAt p lo hi i ∧ bridgeAt p lo hi i ≤ 1000000 := by
  have := lerp_bd p.1 p.2 ((i : Int) - ((lo : Int) - 1)) (((hi : Int) + 1) - ((lo : Int) - 1)) (by omega) (by omega) (by omega)
  unfold bridgeAt
  rcases Int.le_total p.1 p.2 with h3 | h3
  · have := this.1 h3; omega
  · have := this.2 h3; omega
theorem Small.bridge {xs : List Int} (h : Small xs) (lo hi : Nat) : Small (bridgeL xs lo hi) := by
  intro x hx
  simp only [bridgeL, bridgeTo, List.mem_map, List.mem_range] at hx
  obtain ⟨i, hi', rfl⟩ := hx
  split
  · rename_i hc; exact bridgeAt_bd (h.ends lo hi) hc.1 (by omega)
  · exact h.at_ i
theorem bridgeL_length (xs : List Int) (lo hi : Nat) : (bridgeL xs lo hi).length = xs.length := bridgeTo_length _ _ _ _ _

/-- The error of the gaps of so many positions: of one gap, given the one before. -/
def gapE (count : Int) (prev : Option (Int × Int)) (g : Int × Int) : Int :=
  if (0 ≤ g.1 ∧ g.1 ≤ count - 1) ∧ (0 ≤ g.2 ∧ g.2 ≤ count - 1) then
    (if g.2 < g.1 then 9 else match prev with | none => 0 | some p => if g.1 ≤ p.2 + 1 then 9 else 0)
  else 6
def gapsF (count : Int) : Option (Int × Int) → List (Int × Int) → Int
  | _, [] => 0
  | prev, g :: gs => if gapE count prev g = 0 then gapsF count (some g) gs else gapE count prev g
def gapsE (count : Int) (gs : List (Int × Int)) : Int := if gapsF count none gs = 0 then (if (0, count - 1) ∈ gs then 12 else 0) else gapsF count none gs
def prevOf (gs : List (Int × Int)) (k : Nat) : Option (Int × Int) := if k = 0 then none else some (gs.getD (k - 1) (0, 0))
theorem gapsF_step (count : Int) (gs : List (Int × Int)) (k : Nat) (h : k < gs.length) :
    gapsF count (prevOf gs k) (gs.drop k) = if gapE count (prevOf gs k) (gs.getD k (0, 0)) = 0 then gapsF count (prevOf gs (k + 1)) (gs.drop (k + 1)) else gapE count (prevOf gs k) (gs.getD k (0, 0)) := by
  rw [List.drop_eq_getElem_cons h]
  have e : gs.getD k (0, 0) = gs[k] := by simp [List.getD_eq_getElem?_getD, List.getElem?_eq_getElem h]
  have e2 : prevOf gs (k + 1) = some gs[k] := by unfold prevOf; rw [if_neg (by omega), Nat.add_sub_cancel, e]
  rw [e, e2]
  rfl
theorem gapsF_ok {count : Int} : ∀ {gs : List (Int × Int)} {prev : Option (Int × Int)}, gapsF count prev gs = 0 → ∀ g ∈ gs, 0 ≤ g.1 ∧ g.1 ≤ g.2 ∧ g.2 ≤ count - 1
  | [], _, _, g, hg => by simp at hg
  | a :: l, prev, h, g, hg => by
    have ha : gapE count prev a = 0 := by
      unfold gapsF at h
      split at h
      · assumption
      · exact h
    have hl : gapsF count (some a) l = 0 := by unfold gapsF at h; rw [if_pos ha] at h; exact h
    rcases List.mem_cons.1 hg with rfl | hg
    · unfold gapE at ha
      split at ha
      · rename_i h1
        split at ha
        · omega
        · omega
      · omega
    · exact gapsF_ok hl g hg

def bridgedL (xs : List Int) (gs : List (Int × Int)) : List Int := gs.foldl (fun l g => bridgeL l g.1.toNat g.2.toNat) xs
theorem bridgedL_snoc (xs : List Int) (gs : List (Int × Int)) (g : Int × Int) : bridgedL xs (gs ++ [g]) = bridgeL (bridgedL xs gs) g.1.toNat g.2.toNat := by simp [bridgedL]
theorem bridgedL_length (xs : List Int) : ∀ gs : List (Int × Int), (bridgedL xs gs).length = xs.length := by
  intro gs
  unfold bridgedL
  induction gs generalizing xs with
  | nil => rfl
  | cons g l ih => rw [List.foldl_cons, ih, bridgeL_length]
theorem bridgedL_small {xs : List Int} (h : Small xs) : ∀ gs : List (Int × Int), Small (bridgedL xs gs) := by
  intro gs
  unfold bridgedL
  induction gs generalizing xs with
  | nil => exact h
  | cons g l ih => rw [List.foldl_cons]; exact ih (h.bridge _ _)

end Go.Proofs.YtjjflbnopphciaaGreatDoor
