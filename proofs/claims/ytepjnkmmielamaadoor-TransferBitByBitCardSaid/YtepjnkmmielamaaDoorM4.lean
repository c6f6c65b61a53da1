import Derived.Test.YtepjnkmmielamaaDoorM3
namespace Go.Proofs.YtepjnkmmielamaaDoor

def fold1 (r : Int) : Int := if 0 ≤ r then 2 * r else -2 * r - 1
def foldeds (xs : List Int) (p : Nat) : List Int := (List.range 8).map fun i => fold1 (xs.getD i 0 - expd xs i p)

theorem foldeds_length (xs : List Int) (p : Nat) : (foldeds xs p).length = 8 := by simp [foldeds]
theorem foldeds_at (xs : List Int) (p i : Nat) (hi : i < 8) : (foldeds xs p).getD i 0 = fold1 (xs.getD i 0 - expd xs i p) := by
  simp [foldeds, hi]

/-- The first k of us, zeros behind them. -/
def upto (us : List Int) (k : Nat) : List Int := (List.range us.length).map fun i => if i < k then us.getD i 0 else 0

theorem upto_length (us : List Int) (k : Nat) : (upto us k).length = us.length := by simp [upto]
theorem upto_at (us : List Int) (k i : Nat) (hi : i < us.length) : (upto us k).getD i 0 = if i < k then us.getD i 0 else 0 := by
  simp [upto, hi]

theorem upto_step (us : List Int) (k : Nat) (hk : k < us.length) : upto us (k + 1) = (upto us k).set k (us.getD k 0) := by
  apply List.ext_getElem?
  intro i
  rcases Nat.lt_or_ge i us.length with hi | hi
  · simp only [upto, List.getElem?_set, List.getElem?_map, List.getElem?_range, hi, List.length_map, List.length_range, hk, Option.map_some]
    by_cases h : k = i
    · subst h; simp
    · rw [if_neg h]
      by_cases h2 : i < k
      · rw [if_pos h2, if_pos (by omega)]
      · rw [if_neg h2, if_neg (by omega)]
  · rw [List.getElem?_eq_none (by simpa [upto] using hi), List.getElem?_eq_none (by simpa [upto] using hi)]
theorem upto_all (us : List Int) : upto us us.length = us := by
  apply List.ext_getElem?
  intro i
  rcases Nat.lt_or_ge i us.length with hi | hi
  · simp [upto, hi]
  · rw [List.getElem?_eq_none (by simpa [upto] using hi), List.getElem?_eq_none hi]

end Go.Proofs.YtepjnkmmielamaaDoor
