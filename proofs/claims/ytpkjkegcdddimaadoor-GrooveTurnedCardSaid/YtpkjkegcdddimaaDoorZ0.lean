import Derived.Test.YtpkjkegcdddimaaDoorE0
namespace Go.Proofs.YtpkjkegcdddimaaDoor

/-- Sums. -/
def sumTo (f : Nat → Int) : Nat → Int
  | 0 => 0
  | k + 1 => sumTo f k + f k
theorem sumTo_bd {f : Nat → Int} {b : Int} : ∀ {k : Nat}, (∀ i, i < k → 0 ≤ f i ∧ f i ≤ b) → 0 ≤ sumTo f k ∧ sumTo f k ≤ b * k
  | 0, _ => ⟨Int.le_refl _, by simp [sumTo]⟩
  | k + 1, h => by
    have ih := sumTo_bd (f := f) (k := k) fun i hi => h i (by omega)
    have h1 := h k (by omega)
    have e : b * ((k + 1 : Nat) : Int) = b * (k : Int) + b := by rw [Int.natCast_add, Int.mul_add]; simp
    show 0 ≤ sumTo f k + f k ∧ sumTo f k + f k ≤ b * ((k + 1 : Nat) : Int)
    rw [e]
    omega
theorem sumTo_congr {f g : Nat → Int} : ∀ {k : Nat}, (∀ i, i < k → f i = g i) → sumTo f k = sumTo g k
  | 0, _ => rfl
  | k + 1, h => by
    show sumTo f k + f k = sumTo g k + g k
    rw [sumTo_congr (k := k) fun i hi => h i (by omega), h k (by omega)]
def sumL (l : List Int) : Int := l.foldr (· + ·) 0
theorem sumL_append (a b : List Int) : sumL (a ++ b) = sumL a + sumL b := by
  induction a with
  | nil => simp [sumL]
  | cons x t ih => 
    show x + sumL (t ++ b) = x + sumL t + sumL b
    rw [ih]; omega
theorem sumL_perm {a b : List Int} (h : a.Perm b) : sumL a = sumL b := by
  induction h with
  | nil => rfl
  | cons x _ ih => show x + sumL _ = x + sumL _; rw [ih]
  | swap x y l => show y + (x + sumL l) = x + (y + sumL l); omega
  | trans _ _ h1 h2 => exact h1.trans h2
theorem sumTo_map (f : Nat → Int) : ∀ k, sumTo f k = sumL ((List.range k).map f)
  | 0 => rfl
  | k + 1 => by
    rw [List.range_succ, List.map_append, sumL_append, ← sumTo_map f k]
    show sumTo f k + f k = sumTo f k + (f k + 0)
    omega
theorem sumTo_flat (f : Nat → List Int) : ∀ k, sumTo (fun i => sumL (f i)) k = sumL ((List.range k).flatMap f)
  | 0 => rfl
  | k + 1 => by
    rw [List.range_succ, List.flatMap_append, sumL_append, ← sumTo_flat f k]
    show sumTo _ k + sumL (f k) = sumTo _ k + sumL (f k ++ [])
    rw [List.append_nil]
theorem map_getD_range (l : List Int) : (List.range l.length).map (fun i => l.getD i 0) = l := by
  apply List.ext_getElem
  · simp
  · intro i h1 h2
    simp [List.getD_eq_getElem?_getD, List.getElem?_eq_getElem h2]
theorem sumTo_list (l : List Int) : sumTo (fun i => l.getD i 0) l.length = sumL l := by
  rw [sumTo_map, map_getD_range]

/-- The points of a square, and of its rings. -/
def sqPts (q : Nat) : List (Int × Int) := (List.range (2 * q + 1)).flatMap fun y : Nat => (List.range (2 * q + 1)).map fun x : Nat => ((x : Int) - q, (y : Int) - q)
def rgPts (q : Nat) : List (Int × Int) := (List.range q).flatMap fun r => ringTo 0 0 (r + 1) 5
theorem pts_perm : ∀ q, q < 5 → ((0, 0) :: rgPts q).isPerm (sqPts q) = true := by decide +kernel
theorem ring_turn : ∀ r : Nat, r < 5 → ∀ i : Nat, i < 8 * r → (ringTo 0 0 r 5).getD ((i + 2 * r) % (8 * r)) (0, 0) = (-((ringTo 0 0 r 5).getD i (0, 0)).2, ((ringTo 0 0 r 5).getD i (0, 0)).1) := by decide +kernel
theorem ring_near : ∀ r : Nat, r < 5 → ∀ i : Nat, i < 8 * r → -(r : Int) ≤ ((ringTo 0 0 r 5).getD i (0, 0)).1 ∧ ((ringTo 0 0 r 5).getD i (0, 0)).1 ≤ r ∧ -(r : Int) ≤ ((ringTo 0 0 r 5).getD i (0, 0)).2 ∧ ((ringTo 0 0 r 5).getD i (0, 0)).2 ≤ r := by decide +kernel

/-- A turned image. -/
def trRow (q : Nat) (rows : List (List Int)) (y : Nat) : Nat → List Int
  | 0 => []
  | x + 1 => trRow q rows y x ++ [(rows.getD (2 * q - x) []).getD y 0]
theorem trRow_length (q : Nat) (rows : List (List Int)) (y : Nat) : ∀ x, (trRow q rows y x).length = x
  | 0 => rfl
  | x + 1 => by rw [trRow, List.length_append, trRow_length q rows y x]; rfl
theorem trRow_at (q : Nat) (rows : List (List Int)) (y : Nat) : ∀ {k x}, x < k → (trRow q rows y k).getD x 0 = (rows.getD (2 * q - x) []).getD y 0
  | k + 1, x, h => by
    rw [trRow, List.getD_eq_getElem?_getD]
    by_cases e : x < k
    · rw [List.getElem?_append_left (by rw [trRow_length]; exact e), ← List.getD_eq_getElem?_getD, trRow_at q rows y e]
    · obtain rfl : x = k := by omega
      rw [List.getElem?_append_right (by rw [trRow_length]; exact Nat.le_refl _), trRow_length, Nat.sub_self]
      rfl
def trTo (q : Nat) (rows : List (List Int)) (k : Nat) : List (List Int) := (List.range k).map fun y => trRow q rows y (2 * q + 1)
theorem trTo_length (q : Nat) (rows : List (List Int)) (k : Nat) : (trTo q rows k).length = k := by simp [trTo]
theorem trTo_succ (q : Nat) (rows : List (List Int)) (k : Nat) : trTo q rows (k + 1) = trTo q rows k ++ [trRow q rows k (2 * q + 1)] := by simp [trTo, List.range_succ]
theorem trTo_at (q : Nat) (rows : List (List Int)) {k y : Nat} (h : y < k) : (trTo q rows k).getD y [] = trRow q rows y (2 * q + 1) := by
  rw [List.getD_eq_getElem?_getD, trTo, List.getElem?_map, List.getElem?_range h]; rfl
def trd (q : Nat) (rows : List (List Int)) : List (List Int) := trTo q rows (2 * q + 1)
theorem pix_trd {q : Nat} {rows : List (List Int)} {x y : Nat} (hx : x < 2 * q + 1) (hy : y < 2 * q + 1) : pix (trd q rows) ((x : Int), (y : Int)) = pix rows ((y : Int), ((2 * q - x : Nat) : Int)) := by
  unfold pix trd
  dsimp only
  rw [Int.toNat_natCast, Int.toNat_natCast, Int.toNat_natCast, trTo_at q rows hy, trRow_at q rows y hx]
theorem pix_trd_at {q : Nat} {rows : List (List Int)} {a b : Int} (ha : -(q : Int) ≤ a ∧ a ≤ q) (hb : -(q : Int) ≤ b ∧ b ≤ q) : pix (trd q rows) ((q : Int) + a, (q : Int) + b) = pix rows ((q : Int) + b, (q : Int) - a) := by
  have e1 : (q : Int) + a = (((q : Int) + a).toNat : Int) := by omega
  have e2 : (q : Int) + b = (((q : Int) + b).toNat : Int) := by omega
  have e3 : (q : Int) - a = ((2 * q - ((q : Int) + a).toNat : Nat) : Int) := by omega
  rw [e3, e1, e2, pix_trd (by omega) (by omega)]
  congr 3 <;> omega
theorem ring_at (rows : List (List Int)) (q r : Nat) {i : Nat} (hi : i < 8 * r) : ((ringTo (q : Int) q r 5).map (pix rows)).getD i 0 = pix rows ((q : Int) + ((ringTo 0 0 r 5).getD i (0, 0)).1, (q : Int) + ((ringTo 0 0 r 5).getD i (0, 0)).2) := by
  have hl : i < (ringTo 0 0 r 5).length := by rw [ring_size]; exact hi
  rw [ring_shift, List.map_map, List.getD_eq_getElem?_getD, List.getElem?_map, List.getElem?_eq_getElem hl, List.getD_eq_getElem?_getD, List.getElem?_eq_getElem hl]
  rfl
theorem ring_same (rows : List (List Int)) (q r : Nat) (hr : 0 < r) (hq : r ≤ q) (hq4 : q < 5) {i : Nat} (hi : i < 8 * r) : ((ringTo (q : Int) q r 5).map (pix (trd q rows))).getD ((i + 2 * r) % (8 * r)) 0 = ((ringTo (q : Int) q r 5).map (pix rows)).getD i 0 := by
  have hj : (i + 2 * r) % (8 * r) < 8 * r := Nat.mod_lt _ (by omega)
  have hn := ring_near r (by omega) i hi
  rw [ring_at _ q r hj, ring_at _ q r hi, ring_turn r (by omega) i hi]
  dsimp only
  rw [pix_trd_at (by omega) (by omega)]
  congr 2
  omega

/-- The sums of the law. -/
def allS (q : Nat) (rows : List (List Int)) (k : Nat) : Int := sumTo (fun y => sumTo (fun x => (rows.getD y []).getD x 0) (2 * q + 1)) k
def rngS (q : Nat) (rows : List (List Int)) (k : Nat) : Int := sumTo (fun r => sumTo (fun i => ((ringTo (q : Int) q (r + 1) 5).map (pix rows)).getD i 0) (8 * (r + 1))) k
theorem rng_all (q : Nat) (hq : q < 5) (rows : List (List Int)) : rngS q rows q = allS q rows (2 * q + 1) - (rows.getD q []).getD q 0 := by
  have h1 : rngS q rows q = sumL ((rgPts q).map fun p => pix rows ((q : Int) + p.1, (q : Int) + p.2)) := by
    unfold rngS rgPts
    rw [List.map_flatMap, ← sumTo_flat]
    refine sumTo_congr fun r _ => ?_
    have e : 8 * (r + 1) = ((ringTo (q : Int) q (r + 1) 5).map (pix rows)).length := by rw [List.length_map, ring_size]
    rw [e, sumTo_list, ring_shift, List.map_map]
    rfl
  have h2 : allS q rows (2 * q + 1) = sumL ((sqPts q).map fun p => pix rows ((q : Int) + p.1, (q : Int) + p.2)) := by
    unfold allS sqPts
    rw [List.map_flatMap, ← sumTo_flat]
    refine sumTo_congr fun y _ => ?_
    rw [List.map_map, ← sumTo_map]
    refine sumTo_congr fun x _ => ?_
    show _ = pix rows ((q : Int) + ((x : Int) - q), (q : Int) + ((y : Int) - q))
    rw [show (q : Int) + ((x : Int) - q) = (x : Int) by omega, show (q : Int) + ((y : Int) - q) = (y : Int) by omega]
    unfold pix
    dsimp only
    rw [Int.toNat_natCast, Int.toNat_natCast]
  have h3 := (List.isPerm_iff.1 (pts_perm q hq)).map fun p => pix rows ((q : Int) + p.1, (q : Int) + p.2)
  have h4 := sumL_perm h3
  rw [h1, h2, ← h4]
  show _ = pix rows ((q : Int) + 0, (q : Int) + 0) + sumL _ - _
  rw [Int.add_zero]
  unfold pix
  dsimp only
  rw [Int.toNat_natCast]
  omega

end Go.Proofs.YtpkjkegcdddimaaDoor
