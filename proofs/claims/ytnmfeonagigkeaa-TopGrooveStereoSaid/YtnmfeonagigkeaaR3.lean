import Derived.Test.YtnmfeonagigkeaaH3
import Derived.Test.YtnmfeonagigkeaaR1
import Derived.Test.YtnmfeonagigkeaaR2
namespace Go.Proofs.Ytnmfeonagigkeaa
open Go.RowKit Go.Shelf
attribute [local go_sem] Oper.semAt_some

/-- The sides of a ring: the step, and how many times the radius it is long. -/
def sds : List (Int × Int × Nat) := [(0, 1, 1), (-1, 0, 2), (0, -1, 2), (1, 0, 2), (0, 1, 1)]
def sd (i : Nat) : Int × Int × Nat := sds.getD i (0, 0, 0)
def startOf (cx cy : Int) (r : Nat) : Nat → Int × Int
  | 0 => (cx + r, cy)
  | i + 1 => ((startOf cx cy r i).1 + (sd i).1 * ((sd i).2.2 * r : Nat), (startOf cx cy r i).2 + (sd i).2.1 * ((sd i).2.2 * r : Nat))
def ptOf (cx cy : Int) (r i k : Nat) : Int × Int := ((startOf cx cy r i).1 + (sd i).1 * k, (startOf cx cy r i).2 + (sd i).2.1 * k)
def sideTo (cx cy : Int) (r i k : Nat) : List (Int × Int) := (List.range k).map (ptOf cx cy r i)
def ringTo (cx cy : Int) (r : Nat) : Nat → List (Int × Int)
  | 0 => []
  | i + 1 => ringTo cx cy r i ++ sideTo cx cy r i ((sd i).2.2 * r)
theorem sideTo_succ (cx cy : Int) (r i k : Nat) : sideTo cx cy r i (k + 1) = sideTo cx cy r i k ++ [ptOf cx cy r i k] := by simp [sideTo, List.range_succ]

theorem ringTo_len (cx cy : Int) (r k q : Nat) (hk : k < 5) (hq : q < (sd k).2.2 * r) : (ringTo cx cy r k ++ sideTo cx cy r k q).length < (ringTo cx cy r 5).length := by
  have h1 : ∀ i, (ringTo cx cy r (i + 1)).length = (ringTo cx cy r i).length + (sd i).2.2 * r := fun i => by simp [ringTo, sideTo]
  have e0 := h1 0; have e1 := h1 1; have e2 := h1 2; have e3 := h1 3; have e4 := h1 4
  rw [List.length_append, show (sideTo cx cy r k q).length = q by simp [sideTo]]
  rcases (by omega : k = 0 ∨ k = 1 ∨ k = 2 ∨ k = 3 ∨ k = 4) with rfl | rfl | rfl | rfl | rfl <;> simp only [show (sd 0).2.2 = 1 from rfl, show (sd 1).2.2 = 2 from rfl, show (sd 2).2.2 = 2 from rfl, show (sd 3).2.2 = 2 from rfl, show (sd 4).2.2 = 1 from rfl, Nat.zero_add, Nat.reduceAdd, Nat.one_mul] at e0 e1 e2 e3 e4 hq <;> omega

theorem sideTo_pre (cx cy : Int) (r i a b : Nat) (h : a ≤ b) : sideTo cx cy r i a <+: sideTo cx cy r i b := by
  unfold sideTo
  exact (show List.range a <+: List.range b by
    obtain ⟨c, rfl⟩ := Nat.exists_eq_add_of_le h
    rw [List.range_add]; exact List.prefix_append _ _).map _
theorem ringTo_step (cx cy : Int) (r i : Nat) : ringTo cx cy r i <+: ringTo cx cy r (i + 1) := List.prefix_append _ _
theorem ringTo_pre (cx cy : Int) (r k q : Nat) (hk : k < 5) (hq : q < (sd k).2.2 * r) : ringTo cx cy r k ++ sideTo cx cy r k (q + 1) <+: ringTo cx cy r 5 := by
  have h1 : ringTo cx cy r k ++ sideTo cx cy r k (q + 1) <+: ringTo cx cy r (k + 1) := List.prefix_append_right_inj _ |>.2 (sideTo_pre cx cy r k _ _ hq)
  rcases (by omega : k = 0 ∨ k = 1 ∨ k = 2 ∨ k = 3 ∨ k = 4) with rfl | rfl | rfl | rfl | rfl
  · exact (((h1.trans (ringTo_step cx cy r 1)).trans (ringTo_step cx cy r 2)).trans (ringTo_step cx cy r 3)).trans (ringTo_step cx cy r 4)
  · exact ((h1.trans (ringTo_step cx cy r 2)).trans (ringTo_step cx cy r 3)).trans (ringTo_step cx cy r 4)
  · exact (h1.trans (ringTo_step cx cy r 3)).trans (ringTo_step cx cy r 4)
  · exact h1.trans (ringTo_step cx cy r 4)
  · exact h1

theorem cell_same {W W' : World} {B : Nat} (h : W'.heap[B]? = W.heap[B]?) (o : Nat) : W'.cell? ⟨B, o, none⟩ = W.cell? ⟨B, o, none⟩ := by simp [World.cell?, h]
theorem frozen_same {W W' : World} {B : Nat} (h : W'.heap[B]? = W.heap[B]?) (o : Nat) : W'.frozen? ⟨B, o, none⟩ = W.frozen? ⟨B, o, none⟩ := by simp [World.frozen?, h]
theorem ptOf_zero (cx cy : Int) (r i : Nat) : ptOf cx cy r i 0 = startOf cx cy r i := by simp [ptOf]
theorem start_in (cx cy : Int) (r k : Nat) (hk : k < 5) (hcx : -100000 ≤ cx ∧ cx ≤ 100000) (hcy : -100000 ≤ cy ∧ cy ≤ 100000) (hr : r ≤ 100000) :
    -1000000 ≤ (startOf cx cy r k).1 ∧ (startOf cx cy r k).1 ≤ 1000000 ∧ -1000000 ≤ (startOf cx cy r k).2 ∧ (startOf cx cy r k).2 ≤ 1000000 := by
  have e0 : startOf cx cy r 0 = (cx + r, cy) := rfl
  have e1 : startOf cx cy r 1 = ((startOf cx cy r 0).1 + 0 * ((1 * r : Nat) : Int), (startOf cx cy r 0).2 + 1 * ((1 * r : Nat) : Int)) := rfl
  have e2 : startOf cx cy r 2 = ((startOf cx cy r 1).1 + (-1) * ((2 * r : Nat) : Int), (startOf cx cy r 1).2 + 0 * ((2 * r : Nat) : Int)) := rfl
  have e3 : startOf cx cy r 3 = ((startOf cx cy r 2).1 + 0 * ((2 * r : Nat) : Int), (startOf cx cy r 2).2 + (-1) * ((2 * r : Nat) : Int)) := rfl
  have e4 : startOf cx cy r 4 = ((startOf cx cy r 3).1 + 1 * ((2 * r : Nat) : Int), (startOf cx cy r 3).2 + 0 * ((2 * r : Nat) : Int)) := rfl
  rw [e0] at e1
  rw [e1] at e2
  rw [e2] at e3
  rw [e3] at e4
  rcases (by omega : k = 0 ∨ k = 1 ∨ k = 2 ∨ k = 3 ∨ k = 4) with rfl | rfl | rfl | rfl | rfl
  · rw [e0]; dsimp only; omega
  · rw [e1]; dsimp only; omega
  · rw [e2]; dsimp only; omega
  · rw [e3]; dsimp only; omega
  · rw [e4]; dsimp only; omega

end Go.Proofs.Ytnmfeonagigkeaa
