import Derived.Test.YtpkjkegcdddimaaDoorR3
namespace Go.Proofs.YtpkjkegcdddimaaDoor

/-- The reference's five rows of points of a ring around 0. -/
def rgA (r n : Nat) : List (Int × Int) := (List.range n).map fun (k : Nat) => ((r : Int), (k : Int))
def rgB (r n : Nat) : List (Int × Int) := (List.range n).map fun (k : Nat) => ((r : Int) - 1 - (k : Int), (r : Int))
def rgC (r n : Nat) : List (Int × Int) := (List.range n).map fun (k : Nat) => (-(r : Int), (r : Int) - 1 - (k : Int))
def rgD (r n : Nat) : List (Int × Int) := (List.range n).map fun (k : Nat) => (-(r : Int) + 1 + (k : Int), -(r : Int))
def rgE (r n : Nat) : List (Int × Int) := (List.range n).map fun (k : Nat) => ((r : Int), -(r : Int) + 1 + (k : Int))
def refRing (r : Nat) : List (Int × Int) := rgA r (r + 1) ++ rgB r (2 * r) ++ rgC r (2 * r) ++ rgD r (2 * r) ++ rgE r (r - 1)
theorem map_cons (f : Nat → Int × Int) (n : Nat) : (List.range (n + 1)).map f = f 0 :: (List.range n).map fun k => f (k + 1) := by
  rw [List.range_succ_eq_map, List.map_cons, List.map_map]; rfl
theorem map_snoc (f : Nat → Int × Int) (n : Nat) : (List.range (n + 1)).map f = (List.range n).map f ++ [f n] := by simp [List.range_succ]
theorem side_eq (r i n : Nat) (x y a b : Int) (hs : startOf 0 0 r i = (x, y)) (hd : ((sd i).1, (sd i).2.1) = (a, b)) : sideTo 0 0 r i n = (List.range n).map fun (k : Nat) => (x + a * (k : Int), y + b * (k : Int)) := by
  unfold sideTo ptOf
  injection hd with h1 h2
  rw [hs, h1, h2]
theorem refRing_same (q : Nat) : refRing (q + 1) = ringTo 0 0 (q + 1) 5 := by
  have s0 : startOf 0 0 (q + 1) 0 = (((q : Int) + 1), 0) := by show (_, _) = _; simp
  have s1 : startOf 0 0 (q + 1) 1 = (((q : Int) + 1), (q : Int) + 1) := by
    unfold startOf; rw [s0]; simp [sd, sds]
  have s2 : startOf 0 0 (q + 1) 2 = (-((q : Int) + 1), (q : Int) + 1) := by
    unfold startOf; rw [s1]; simp [sd, sds]; omega
  have s3 : startOf 0 0 (q + 1) 3 = (-((q : Int) + 1), -((q : Int) + 1)) := by
    unfold startOf; rw [s2]; simp [sd, sds]; omega
  have s4 : startOf 0 0 (q + 1) 4 = (((q : Int) + 1), -((q : Int) + 1)) := by
    unfold startOf; rw [s3]; simp [sd, sds]; omega
  have e : ringTo 0 0 (q + 1) 5 = sideTo 0 0 (q + 1) 0 (q + 1) ++ sideTo 0 0 (q + 1) 1 (2 * q + 1 + 1) ++ sideTo 0 0 (q + 1) 2 (2 * q + 1 + 1) ++ sideTo 0 0 (q + 1) 3 (2 * q + 1 + 1) ++ sideTo 0 0 (q + 1) 4 (q + 1) := by
    simp only [ringTo, List.nil_append]
    rw [show (sd 0).2.2 * (q + 1) = q + 1 by simp [sd, sds], show (sd 1).2.2 * (q + 1) = 2 * q + 1 + 1 by simp [sd, sds]; omega, show (sd 2).2.2 * (q + 1) = 2 * q + 1 + 1 by simp [sd, sds]; omega, show (sd 3).2.2 * (q + 1) = 2 * q + 1 + 1 by simp [sd, sds]; omega, show (sd 4).2.2 * (q + 1) = q + 1 by simp [sd, sds]]
  rw [e, side_eq _ _ _ _ _ 0 1 s0 rfl, side_eq _ _ _ _ _ (-1) 0 s1 rfl, side_eq _ _ _ _ _ 0 (-1) s2 rfl, side_eq _ _ _ _ _ 1 0 s3 rfl, side_eq _ _ _ _ _ 0 1 s4 rfl]
  rw [map_cons _ (2 * q + 1), map_cons _ (2 * q + 1), map_cons _ (2 * q + 1), map_cons (fun (k : Nat) => (((q : Int) + 1) + 0 * (k : Int), -((q : Int) + 1) + 1 * (k : Int))) q]
  unfold refRing rgA rgB rgC rgD rgE
  rw [show 2 * (q + 1) = 2 * q + 1 + 1 by omega, map_snoc _ (q + 1), map_snoc _ (2 * q + 1), map_snoc _ (2 * q + 1), map_snoc _ (2 * q + 1), show q + 1 - 1 = q by omega]
  simp only [List.append_assoc, List.cons_append, List.nil_append, Int.natCast_add, Int.natCast_mul, Int.natCast_one, show ((2 : Nat) : Int) = 2 from rfl, show ((0 : Nat) : Int) = 0 from rfl]
  have c : ∀ (f g : Nat → Int × Int) (n : Nat) (a b : List (Int × Int)), (∀ k, f k = g k) → a = b → (List.range n).map f ++ a = (List.range n).map g ++ b := fun f g n a b h1 h2 => by rw [h2, funext h1]
  have cc : ∀ (a b : Int × Int) (l m : List (Int × Int)), a = b → l = m → a :: l = b :: m := fun a b l m h1 h2 => by rw [h1, h2]
  refine c _ _ _ _ _ (fun k => by ext <;> dsimp only <;> omega) ?_
  refine cc _ _ _ _ (by ext <;> dsimp only <;> omega) ?_
  refine c _ _ _ _ _ (fun k => by ext <;> dsimp only <;> omega) ?_
  refine cc _ _ _ _ (by ext <;> dsimp only <;> omega) ?_
  refine c _ _ _ _ _ (fun k => by ext <;> dsimp only <;> omega) ?_
  refine cc _ _ _ _ (by ext <;> dsimp only <;> omega) ?_
  refine c _ _ _ _ _ (fun k => by ext <;> dsimp only <;> omega) ?_
  refine cc _ _ _ _ (by ext <;> dsimp only <;> omega) ?_
  exact congrArg (fun h => (List.range q).map h) (funext fun k => by ext <;> dsimp only <;> omega)

end Go.Proofs.YtpkjkegcdddimaaDoor
