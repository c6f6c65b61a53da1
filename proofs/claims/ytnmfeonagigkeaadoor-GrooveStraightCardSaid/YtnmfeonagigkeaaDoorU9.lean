import Derived.Test.YtnmfeonagigkeaaDoorU0
namespace Go.Proofs.YtnmfeonagigkeaaDoor
open Go.RowKit

theorem gaps_empty {gs : List (Int × Int)} (h : gapsF 0 none gs = 0) : gs = [] := by
  cases gs with
  | nil => rfl
  | cons g gs =>
    have h1 := gapsF_ok h g (List.mem_cons_self ..)
    omega
theorem gapsE_ok {count : Int} {gs : List (Int × Int)} (h : gapsE count gs = 0) : gapsF count none gs = 0 := by
  unfold gapsE at h
  by_cases h1 : gapsF count none gs = 0
  · exact h1
  · rw [if_neg h1] at h; exact h
theorem getD_mem {gs : List (Int × Int)} {m : Nat} (h : m < gs.length) : gs.getD m (0, 0) ∈ gs := by
  rw [List.getD_eq_getElem?_getD, List.getElem?_eq_getElem h]; exact List.getElem_mem _
theorem getD_split {gs : List (Int × Int)} {m : Nat} (h : m < gs.length) : gs = gs.take m ++ gs.getD m (0, 0) :: gs.drop (m + 1) := by
  have e : gs.getD m (0, 0) = gs[m] := by simp [List.getD_eq_getElem?_getD, List.getElem?_eq_getElem h]
  rw [e, ← List.drop_eq_getElem_cons h, List.take_append_drop]
theorem bridge_out {xs : List Int} {gs : List (Int × Int)} {j : Nat} (hF : gapsF (xs.length : Nat) none gs = 0) (hj : j < xs.length) (h : ∀ m, m < gs.length → ¬ inG gs m j) : (refL xs gs).getD j 0 = xs.getD j 0 := by
  refine refL_out hj fun g hg h1 => ?_
  obtain ⟨m, hm, e⟩ := List.mem_iff_getElem.1 hg
  have h2 := h m hm
  have h3 := gapsF_ok hF g hg
  unfold inG at h2
  have e' : gs.getD m (0, 0) = g := by simp [List.getD_eq_getElem?_getD, List.getElem?_eq_getElem hm, e]
  rw [e'] at h2
  omega
theorem bridge_in {xs : List Int} {gs : List (Int × Int)} {j m : Nat} (hF : gapsF (xs.length : Nat) none gs = 0) (hm : m < gs.length) (h : inG gs m j) (p q : Nat) (hp : (gs.getD m (0, 0)).1 - 1 = p) (hq : (gs.getD m (0, 0)).2 + 1 = q) (hqn : q ≠ xs.length) :
    min (xs.getD p 0) (xs.getD q 0) ≤ (refL xs gs).getD j 0 ∧ (refL xs gs).getD j 0 ≤ max (xs.getD p 0) (xs.getD q 0) := by
  have h3 := gapsF_ok hF _ (getD_mem hm)
  unfold inG at h
  have h4 : (gs.getD m (0, 0)).1.toNat ≤ j ∧ j ≤ (gs.getD m (0, 0)).2.toNat := by omega
  rw [refL_in hF (getD_split hm) h4]
  have h5 := between (xs := xs) h4 (by omega) (by omega)
  rw [show (gs.getD m (0, 0)).1.toNat - 1 = p by omega, show (gs.getD m (0, 0)).2.toNat + 1 = q by omega] at h5
  omega

end Go.Proofs.YtnmfeonagigkeaaDoor
