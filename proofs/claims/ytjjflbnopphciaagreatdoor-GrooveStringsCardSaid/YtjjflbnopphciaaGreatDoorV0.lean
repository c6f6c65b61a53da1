import Derived.Test.YtjjflbnopphciaaGreatDoorP7
import Derived.Test.YtjjflbnopphciaaGreatDoorB6
namespace Go.Proofs.YtjjflbnopphciaaGreatDoor

def firstE (f : Nat → Int) : Nat → Nat → Int
  | _, 0 => 0
  | k, m + 1 => if f k = 0 then firstE f (k + 1) m else f k
theorem firstE_zero {f : Nat → Int} : ∀ {m k : Nat}, (∀ i, k ≤ i → i < k + m → f i = 0) → firstE f k m = 0
  | 0, _, _ => rfl
  | m + 1, k, h => by
    unfold firstE
    rw [if_pos (h k (Nat.le_refl _) (by omega))]
    exact firstE_zero fun i h1 h2 => h i (by omega) (by omega)

/-- Velocities. -/
def velL (xs : List Int) : List Int := (List.range (xs.length - 1)).map fun i => xs.getD (i + 1) 0 - xs.getD i 0
def velTo (xs : List Int) (k : Nat) : List Int := (List.range k).map fun i => xs.getD (i + 1) 0 - xs.getD i 0
theorem velTo_succ (xs : List Int) (k : Nat) : velTo xs (k + 1) = velTo xs k ++ [xs.getD (k + 1) 0 - xs.getD k 0] := by simp [velTo, List.range_succ]
theorem velTo_length (xs : List Int) (k : Nat) : (velTo xs k).length = k := by simp [velTo]
theorem velL_length (xs : List Int) : (velL xs).length = xs.length - 1 := by simp [velL]
theorem velL_at (xs : List Int) (k : Nat) (h : k < xs.length - 1) : (velL xs).getD k 0 = xs.getD (k + 1) 0 - xs.getD k 0 := by
  rw [List.getD_eq_getElem?_getD, List.getElem?_eq_getElem (by rw [velL_length]; exact h)]
  simp [velL]

/-- Positions with velocities. -/
def posAt (s : Int) (v : List Int) : Nat → Int
  | 0 => s
  | k + 1 => posAt s v k + v.getD k 0
def posTo (s : Int) (v : List Int) (n : Nat) : List Int := (List.range n).map (posAt s v)
theorem posTo_succ (s : Int) (v : List Int) (n : Nat) : posTo s v (n + 1) = posTo s v n ++ [posAt s v n] := by simp [posTo, List.range_succ]
theorem posTo_length (s : Int) (v : List Int) (n : Nat) : (posTo s v n).length = n := by simp [posTo]
theorem posTo_at (s : Int) (v : List Int) (n k : Nat) (h : k < n) : (posTo s v n)[k]? = some (posAt s v k) := by simp [posTo, h]
def stepE (s : Int) (v : List Int) (k : Nat) : Int := if fromB (-2000000) 2000000 [v.getD k 0] = true then (if fromB (-1000000) 1000000 [posAt s v (k + 1)] = true then 0 else 23) else 2
def psE (s : Int) (v : List Int) : Int := if fromB (-1000000) 1000000 [s] = true then (if v.length < 200 then firstE (stepE s v) 0 v.length else 8) else 2
def psL (s : Int) (v : List Int) : List Int := if psE s v = 0 then posTo s v (v.length + 1) else []
theorem psL_err {s : Int} {v : List Int} (h : psE s v ≠ 0) : psL s v = [] := if_neg h

/-- Jumps. -/
def jmpB (xs : List Int) (limit : Int) (i : Nat) : Bool := !fromB (-limit) limit [xs.getD i 0 - xs.getD (i - 1) 0]
def jmpTo (xs : List Int) (limit : Int) : Nat → List Int
  | 0 => []
  | k + 1 => if k ≠ 0 ∧ jmpB xs limit k = true then jmpTo xs limit k ++ [(k : Int)] else jmpTo xs limit k
def limE (n : Int) : Int := if fromB 0 2000000 [n] = true then 0 else 2
def jmpE (xs : List Int) (limit : Int) : Int := if posE xs = 0 then limE limit else posE xs
def jmpL (xs : List Int) (limit : Int) : List Int := if jmpE xs limit = 0 then jmpTo xs limit xs.length else []
theorem jmpTo_length (xs : List Int) (limit : Int) : ∀ k, (jmpTo xs limit k).length ≤ k
  | 0 => Nat.le_refl _
  | k + 1 => by
    have := jmpTo_length xs limit k
    unfold jmpTo
    split
    · rw [List.length_append]; simp; omega
    · omega

/-- Velocities and positions reverse each other. -/
theorem posAt_vel (xs : List Int) : ∀ k, k < xs.length → posAt (xs.getD 0 0) (velL xs) k = xs.getD k 0
  | 0, _ => rfl
  | k + 1, h => by
    have ih := posAt_vel xs k (by omega)
    show posAt _ _ k + (velL xs).getD k 0 = _
    rw [ih, velL_at xs k (by omega)]
    omega
theorem psE_vel {xs : List Int} (h : posE xs = 0) (hn : 0 < xs.length) : psE (xs.getD 0 0) (velL xs) = 0 ∧ psL (xs.getD 0 0) (velL xs) = xs := by
  obtain ⟨hl, hs⟩ := pos_ok h
  have e : psE (xs.getD 0 0) (velL xs) = 0 := by
    unfold psE
    rw [if_pos (by rw [fromB_one]; exact hs.at_ 0), if_pos (by rw [velL_length]; omega)]
    refine firstE_zero fun i _ hi => ?_
    rw [velL_length] at hi
    unfold stepE
    have h1 := hs.at_ i
    have h2 := hs.at_ (i + 1)
    rw [velL_at xs i (by omega), posAt_vel xs (i + 1) (by omega), if_pos (by rw [fromB_one]; omega), if_pos (by rw [fromB_one]; exact h2)]
  refine ⟨e, ?_⟩
  unfold psL
  rw [if_pos e]
  apply List.ext_getElem
  · rw [posTo_length, velL_length]; omega
  · intro i h1 h2
    have h3 := posTo_at (xs.getD 0 0) (velL xs) ((velL xs).length + 1) i (by rw [posTo_length] at h1; exact h1)
    rw [List.getElem?_eq_getElem h1] at h3
    have h4 := posAt_vel xs i h2
    injection h3 with h3
    rw [h3, h4, List.getD_eq_getElem?_getD, List.getElem?_eq_getElem h2]
    rfl

end Go.Proofs.YtjjflbnopphciaaGreatDoor
