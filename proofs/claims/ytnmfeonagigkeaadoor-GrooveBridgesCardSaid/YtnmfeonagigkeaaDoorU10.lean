import Derived.Test.YtnmfeonagigkeaaDoorU1
import Derived.Test.YtnmfeonagigkeaaDoorU2
import Derived.Test.YtnmfeonagigkeaaDoorU3
namespace Go.Proofs.YtnmfeonagigkeaaDoor
open Go.RowKit

theorem gaps_empty {gs : List (Int × Int)} (h : gapsF 0 none gs = 0) : gs = [] := by
  cases gs with
  | nil => rfl
  | cons g gs =>
    have h1 := gapsF_ok h g (List.mem_cons_self ..)
    omega
theorem gapsE_ok {count : Int} {gs : List (Int × Int)} (h : gapsE count gs = 0) : gapsF count none gs = 0 := by
  unfold gapsE at h
  by_cases h1 : gapsF count none gs = 0
  · exact h1
  · rw [if_neg h1] at h; exact h
theorem getD_mem {gs : List (Int × Int)} {m : Nat} (h : m < gs.length) : gs.getD m (0, 0) ∈ gs := by
  rw [List.getD_eq_getElem?_getD, List.getElem?_eq_getElem h]; exact List.getElem_mem _
theorem getD_split {gs : List (Int × Int)} {m : Nat} (h : m < gs.length) : gs = gs.take m ++ gs.getD m (0, 0) :: gs.drop (m + 1) := by
  have e : gs.getD m (0, 0) = gs[m] := by simp [List.getD_eq_getElem?_getD, List.getElem?_eq_getElem h]
  rw [e, ← List.drop_eq_getElem_cons h, List.take_append_drop]
theorem bridge_out {xs : List Int} {gs : List (Int × Int)} {j : Nat} (hF : gapsF (xs.length : Nat) none gs = 0) (hj : j < xs.length) (h : ∀ m, m < gs.length → ¬ inG gs m j) : (refL xs gs).getD j 0 = xs.getD j 0 := by
  refine refL_out hj fun g hg h1 => ?_
  obtain ⟨m, hm, e⟩ := List.mem_iff_getElem.1 hg
  have h2 := h m hm
  have h3 := gapsF_ok hF g hg
  unfold inG at h2
  have e' : gs.getD m (0, 0) = g := by simp [List.getD_eq_getElem?_getD, List.getElem?_eq_getElem hm, e]
  rw [e'] at h2
  omega
theorem bridge_in {xs : List Int} {gs : List (Int × Int)} {j m : Nat} (hF : gapsF (xs.length : Nat) none gs = 0) (hm : m < gs.length) (h : inG gs m j) (p q : Nat) (hp : (gs.getD m (0, 0)).1 - 1 = p) (hq : (gs.getD m (0, 0)).2 + 1 = q) (hqn : q ≠ xs.length) :
    min (xs.getD p 0) (xs.getD q 0) ≤ (refL xs gs).getD j 0 ∧ (refL xs gs).getD j 0 ≤ max (xs.getD p 0) (xs.getD q 0) := by
  have h3 := gapsF_ok hF _ (getD_mem hm)
  unfold inG at h
  have h4 : (gs.getD m (0, 0)).1.toNat ≤ j ∧ j ≤ (gs.getD m (0, 0)).2.toNat := by omega
  rw [refL_in hF (getD_split hm) h4]
  have h5 := between (xs := xs) h4 (by omega) (by omega)
  rw [show (gs.getD m (0, 0)).1.toNat - 1 = p by omega, show (gs.getD m (0, 0)).2.toNat + 1 = q by omega] at h5
  omega

theorem bridges_walk (A : Option Addr) (n c : Nat) (xs : List Int) (B : Option Addr) (k cB : Nat) (gs : List (Int × Int)) (w : World) (hl : LaidSides w) (hA : A = none → n = 0 ∧ c = 0) (hr : RdI w A n xs) (hB : B = none → k = 0 ∧ cB = 0) (hg : RdP w B k gs) :
    Calls Tryd.prog 5 #[.slice A n c, .slice B k cB] w fun e w' => e = .returned (.bool true) ∧ Below w.heap.size w w' := by
  by_cases hn : n ≤ 203
  · by_cases hk : k ≤ 20
    · by_cases hd : posE xs = 0
      · by_cases hd2 : gapsE n gs = 0
        · have hxl : xs.length = n := hr.1
          have hgl : gs.length = k := hg.1
          have hF := gapsE_ok hd2
          rw [← hxl] at hF
          have hbe : brE xs gs = 0 := by unfold brE; rw [if_pos hd, hxl]; exact hd2
          have hbl : brL xs gs = refL xs gs := by unfold brL; rw [if_pos hbe, refL_same hF]
          have hyl : (refL xs gs).length = n := by rw [refL_length, hxl]
          have hCRB : ∀ W, RdI W A n xs → RdP W B k gs → Calls Tryd.prog 31 #[.slice A n c, .slice B k cB] W (OwnS W (refL xs gs)) := by
            intro W h1 h2
            by_cases h0 : n = 0
            · subst h0
              have hx0 : xs = [] := List.eq_nil_of_length_eq_zero hxl
              subst hx0
              obtain rfl : gs = [] := gaps_empty hF
              obtain rfl : 0 = k := hgl
              exact refBridged_nil A c B cB W hA
            · exact refBridged_any A n c xs B k cB gs W hA h1 h2 hn (by omega) (pos_ok hd).2 (by rw [hxl]; exact hd2) (by omega)
          have hgb : ∀ m, m < k → 0 ≤ (gs.getD m (0, 0)).1 ∧ (gs.getD m (0, 0)).1 ≤ (gs.getD m (0, 0)).2 ∧ (gs.getD m (0, 0)).2 ≤ (n : Int) - 1 := fun m hm => by
            have h := gapsF_ok hF _ (getD_mem (by rw [hgl]; exact hm))
            rw [hxl] at h
            exact h
          have hout : ∀ j, j < n → (∀ m, m < k → ¬ inG gs m j) → (refL xs gs).getD j 0 = xs.getD j 0 := fun j hj h => bridge_out hF (by rw [hxl]; exact hj) (by rw [hgl]; exact h)
          have hbt : ∀ j, j < n → ∀ m, m < k → inG gs m j → ∀ p q : Nat, (gs.getD m (0, 0)).1 - 1 = p → (gs.getD m (0, 0)).2 + 1 = q → q ≠ n → min (xs.getD p 0) (xs.getD q 0) ≤ (refL xs gs).getD j 0 ∧ (refL xs gs).getD j 0 ≤ max (xs.getD p 0) (xs.getD q 0) := fun j hj m hm h p q hp hq hqn => bridge_in hF (by rw [hgl]; exact hm) h p q hp hq (by rw [hxl]; exact hqn)
          cases hBo : B with
          | none => rw [← hBo]; exact bridges_okn A n c xs B k cB gs w hl hA hB hr hg hn hk hBo _ hyl hbe hbl hd hd2 hCRB hgb hout hbt
          | some ad => rw [← hBo]; exact bridges_oks A n c xs B k cB gs w hl hA hB hr hg hn hk ad hBo _ hyl hbe hbl hd hd2 hCRB hgb hout hbt
        · cases hBo : B with
          | none => rw [← hBo]; exact bridges_err2n A n c xs B k cB gs w hl hA hB hr hg hn hk hBo hd _ rfl (by simpa using hd2)
          | some ad => rw [← hBo]; exact bridges_err2s A n c xs B k cB gs w hl hA hB hr hg hn hk ad hBo hd _ rfl (by simpa using hd2)
      · cases hBo : B with
        | none => rw [← hBo]; exact bridges_err1n A n c xs B k cB gs w hl hA hB hr hg hn hk hBo _ rfl (by simpa using hd)
        | some ad => rw [← hBo]; exact bridges_err1s A n c xs B k cB gs w hl hA hB hr hg hn hk ad hBo _ rfl (by simpa using hd)
    · exact bridges_many2 A n c xs B k cB gs w hl hA hB hr hg hn hk
  · exact bridges_many1 A n c xs B k cB gs w hl hA hB hr hg hn

end Go.Proofs.YtnmfeonagigkeaaDoor
