import Derived.Test.YtkemoffagdilgaaGreatDoorUC
import Derived.Test.YtkemoffagdilgaaGreatDoorW21
import Derived.Laws.AppendOwnNone
import Derived.Laws.OwnMore
namespace Go.Proofs.YtkemoffagdilgaaGreatDoor
open Go.RowKit

theorem getD_cases (l : List Int) (k : Nat) (h : Bits01 l) : l.getD k 0 = 0 ∨ l.getD k 0 = 1 := by
  rcases Nat.lt_or_ge k l.length with hk | hk
  · have e : l.getD k 0 = l[k] := by simp [List.getD_eq_getElem?_getD, List.getElem?_eq_getElem hk]
    rw [e]; exact h _ (List.getElem_mem hk)
  · left; simp [List.getD_eq_getElem?_getD, List.getElem?_eq_none hk]
theorem take_snoc' (l : List Int) (k : Nat) (h : k < l.length) : l.take (k + 1) = l.take k ++ [l.getD k 0] := by
  rw [List.take_succ_eq_append_getElem h]
  simp [List.getD_eq_getElem?_getD, List.getElem?_eq_getElem h]
theorem Bits01.take {l : List Int} (h : Bits01 l) (k : Nat) : Bits01 (l.take k) := fun x hx => h x (List.mem_of_mem_take hx)
theorem Bits01.drop {l : List Int} (h : Bits01 l) (k : Nat) : Bits01 (l.drop k) := fun x hx => h x (List.mem_of_mem_drop hx)

theorem two_pow_le (k : Nat) (h : k ≤ 40) : (2 : Int) ^ k ≤ 1099511627776 := by
  have : ((2 ^ k : Nat) : Int) ≤ ((2 ^ 40 : Nat) : Int) := by exact_mod_cast Nat.pow_le_pow_right (by omega) h
  simpa using this
theorem numT_take_bd (l : List Int) (h : Bits01 l) (k : Nat) (hk : k ≤ 40) : 0 ≤ numT (l.take k) ∧ numT (l.take k) ≤ 1099511627776 := by
  have a := numT_bd (l.take k) (h.take k)
  have b := two_pow_le (l.take k).length (by rw [List.length_take]; omega)
  omega

/-- Where the first zero stands, or -1. -/
def idxE (l : List Int) : Int := if onesL l < l.length then (onesL l : Int) else -1
theorem onesL_of (l : List Int) (k : Nat) (hk : k < l.length) (h0 : ∀ j, j < k → l.getD j 0 ≠ 0) (h1 : l.getD k 0 = 0) : onesL l = k := by
  unfold onesL
  rw [List.findIdx_eq hk]
  have e : ∀ j (hj : j < l.length), l.getD j 0 = l[j] := fun j hj => by simp [List.getD_eq_getElem?_getD, List.getElem?_eq_getElem hj]
  refine ⟨by rw [← e k hk, h1]; rfl, fun j hj => ?_⟩
  have := h0 j hj
  rw [e j (by omega)] at this
  simpa using this
theorem onesL_end (l : List Int) (h0 : ∀ j, j < l.length → l.getD j 0 ≠ 0) : onesL l = l.length := by
  unfold onesL
  rw [List.findIdx_eq_length]
  intro x hx
  obtain ⟨j, hj, rfl⟩ := List.getElem_of_mem hx
  have := h0 j hj
  simpa [List.getD_eq_getElem?_getD, List.getElem?_eq_getElem hj] using this

end Go.Proofs.YtkemoffagdilgaaGreatDoor
