import Derived.Test.YtnmfeonagigkeaaDoorS0
namespace Go.Proofs.YtnmfeonagigkeaaDoor

/-- How many positions lie in gaps. -/
def sumG : List (Int × Int) → Int
  | [] => 0
  | g :: gs => (g.2 - g.1 + 1) + sumG gs
theorem sumG_take (gs : List (Int × Int)) (k : Nat) (h : k < gs.length) : sumG (gs.take (k + 1)) = sumG (gs.take k) + (gs.getD k (0, 0)).2 - (gs.getD k (0, 0)).1 + 1 := by
  induction gs generalizing k with
  | nil => simp at h
  | cons g gs ih =>
    cases k with
    | zero => simp [sumG]
    | succ k =>
      have := ih k (by simpa using h)
      rw [List.take_succ_cons, List.take_succ_cons]
      show _ + sumG _ = _ + sumG _ + _ - _ + 1
      rw [this]
      simp only [List.getD_cons_succ]
      omega
theorem gapsF_cons {count : Int} {prev : Option (Int × Int)} {g : Int × Int} {gs : List (Int × Int)} (h : gapsF count prev (g :: gs) = 0) : gapE count prev g = 0 ∧ gapsF count (some g) gs = 0 := by
  have ha : gapE count prev g = 0 := by
    unfold gapsF at h
    split at h
    · assumption
    · exact h
  refine ⟨ha, ?_⟩
  unfold gapsF at h; rw [if_pos ha] at h; exact h
theorem gapE_ok {count : Int} {prev : Option (Int × Int)} {g : Int × Int} (h : gapE count prev g = 0) : 0 ≤ g.1 ∧ g.1 ≤ g.2 ∧ g.2 ≤ count - 1 ∧ ∀ p, prev = some p → p.2 + 1 < g.1 := by
  unfold gapE at h
  split at h
  · split at h
    · omega
    · rename_i h1 h2
      refine ⟨by omega, by omega, by omega, ?_⟩
      rintro p rfl
      dsimp only at h
      split at h
      · omega
      · omega
  · omega
theorem sumG_some {count : Int} : ∀ {gs : List (Int × Int)} {p : Int × Int}, gapsF count (some p) gs = 0 → p.2 ≤ count - 1 → sumG gs ≤ count - p.2 - 1 ∧ (gs ≠ [] → sumG gs ≤ count - p.2 - 2) ∧ ∀ g ∈ gs, p.2 + 2 ≤ g.1 ∧ g.1 ≤ g.2 ∧ g.2 ≤ count - 1
  | [], p, _, hp => ⟨by simp [sumG]; omega, fun h => absurd rfl h, fun g hg => by cases hg⟩
  | g :: gs, p, h, hp => by
    obtain ⟨h1, h2⟩ := gapsF_cons h
    have h3 := gapE_ok h1
    have h4 := h3.2.2.2 p rfl
    obtain ⟨i1, _, i3⟩ := sumG_some h2 h3.2.2.1
    have e : sumG (g :: gs) = (g.2 - g.1 + 1) + sumG gs := rfl
    refine ⟨by omega, fun _ => by omega, fun q hq => ?_⟩
    rcases List.mem_cons.1 hq with rfl | hq
    · omega
    · have := i3 q hq; omega
theorem sumG_all {count : Int} {gs : List (Int × Int)} (h : gapsF count none gs = 0) : (sumG gs = count ∧ 0 < count ↔ (0, count - 1) ∈ gs) ∧ 0 ≤ sumG gs ∧ sumG gs ≤ max count 0 := by
  cases gs with
  | nil => simp [sumG]; omega
  | cons g gs =>
    obtain ⟨h1, h2⟩ := gapsF_cons h
    have h3 := gapE_ok h1
    obtain ⟨i1, i2, i3⟩ := sumG_some h2 h3.2.2.1
    have e : sumG (g :: gs) = (g.2 - g.1 + 1) + sumG gs := rfl
    have hpos : ∀ l : List (Int × Int), (∀ q ∈ l, q.1 ≤ q.2) → 0 ≤ sumG l := by
      intro l hl
      induction l with
      | nil => simp [sumG]
      | cons a l ih =>
        have e : sumG (a :: l) = (a.2 - a.1 + 1) + sumG l := rfl
        have := ih fun q hq => hl q (List.mem_cons_of_mem _ hq)
        have := hl a (List.mem_cons_self ..)
        omega
    have hp := hpos gs fun q hq => (i3 q hq).2.1
    refine ⟨⟨fun hs => ?_, fun hm => ?_⟩, by omega, by omega⟩
    · by_cases hg : gs = []
      · subst hg
        have e0 : sumG ([] : List (Int × Int)) = 0 := rfl
        have : g = (0, count - 1) := by
          obtain ⟨x, y⟩ := g
          simp only [Prod.mk.injEq]
          dsimp only at *
          omega
        rw [this]; exact List.mem_cons_self ..
      · have := i2 hg
        omega
    · rcases List.mem_cons.1 hm with rfl | hm
      · dsimp only at *
        cases gs with
        | nil =>
          have e0 : sumG ([] : List (Int × Int)) = 0 := rfl
          omega
        | cons b l =>
          have := i3 b (List.mem_cons_self ..)
          omega
      · have := i3 _ hm
        dsimp only at this
        omega

/-- Bridging by the ends of the first list. -/
def refStep (xs : List Int) (l : List Int) (g : Int × Int) : List Int := bridgeTo (endsL xs g.1.toNat g.2.toNat) l g.1.toNat g.2.toNat (g.2.toNat + 1 - g.1.toNat)
def refL (xs : List Int) (gs : List (Int × Int)) : List Int := gs.foldl (refStep xs) xs
theorem refL_snoc (xs : List Int) (gs : List (Int × Int)) (g : Int × Int) : refL xs (gs ++ [g]) = refStep xs (refL xs gs) g := by simp [refL]
theorem refL_length (xs : List Int) (gs : List (Int × Int)) : (refL xs gs).length = xs.length := by
  have : ∀ (gs : List (Int × Int)) (l : List Int), (gs.foldl (refStep xs) l).length = l.length := by
    intro gs
    induction gs with
    | nil => intro l; rfl
    | cons g gs ih => intro l; rw [List.foldl_cons, ih]; exact bridgeTo_length _ _ _ _ _
  exact this gs xs
theorem bridgeTo_far (p : Int × Int) (l : List Int) (lo hi k j : Nat) (h : lo + k ≤ j) : (bridgeTo p l lo hi k).getD j 0 = l.getD j 0 := by
  by_cases hj : j < l.length
  · have h1 : j < (bridgeTo p l lo hi k).length := by rw [bridgeTo_length]; exact hj
    rw [List.getD_eq_getElem?_getD, List.getElem?_eq_getElem h1]
    simp only [bridgeTo, List.getElem_map, List.getElem_range, Option.getD_some]
    rw [if_neg (by omega)]
  · rw [List.getD_eq_getElem?_getD, List.getD_eq_getElem?_getD, List.getElem?_eq_none (by rw [bridgeTo_length]; omega), List.getElem?_eq_none (by omega)]
theorem fold_same {count : Int} {xs : List Int} (hc : count = xs.length) : ∀ (gs : List (Int × Int)) (prev : Option (Int × Int)) (l : List Int) (m : Nat), gapsF count prev gs = 0 → (∀ p, prev = some p → 0 ≤ p.2 ∧ m = p.2.toNat + 1) → (prev = none → m = 0) → l.length = xs.length → (∀ j, m ≤ j → l.getD j 0 = xs.getD j 0) →
    gs.foldl (fun l g => bridgeL l g.1.toNat g.2.toNat) l = gs.foldl (refStep xs) l
  | [], _, _, _, _, _, _, _, _ => rfl
  | g :: gs, prev, l, m, h, hp, hn, hl, hj => by
    obtain ⟨h1, h2⟩ := gapsF_cons h
    have h3 := gapE_ok h1
    have hlo : ∀ p, prev = some p → m + 1 ≤ g.1.toNat := fun p e => by
      have := h3.2.2.2 p e
      have := hp p e
      omega
    have hm : m ≤ g.1.toNat ∧ (g.1.toNat ≠ 0 → m ≤ g.1.toNat - 1) := by
      cases prev with
      | none => have := hn rfl; omega
      | some p => have := hlo p rfl; omega
    have he : endsL l g.1.toNat g.2.toNat = endsL xs g.1.toNat g.2.toNat := by
      unfold endsL
      rw [hl, hj (g.2.toNat + 1) (by omega)]
      by_cases h0 : g.1.toNat = 0
      · rw [if_pos h0, if_pos h0]
      · rw [if_neg h0, if_neg h0, hj (g.1.toNat - 1) (hm.2 h0)]
    rw [List.foldl_cons, List.foldl_cons]
    have e1 : bridgeL l g.1.toNat g.2.toNat = refStep xs l g := by
      show bridgeTo (endsL l _ _) _ _ _ _ = _
      rw [he]; rfl
    rw [e1]
    refine fold_same hc gs (some g) (refStep xs l g) (g.2.toNat + 1) h2 ?_ (fun e => by cases e) ?_ ?_
    · rintro p e
      cases e
      omega
    · rw [← hl]; exact bridgeTo_length _ _ _ _ _
    · intro j hjj
      have := bridgeTo_far (endsL xs g.1.toNat g.2.toNat) l g.1.toNat g.2.toNat (g.2.toNat + 1 - g.1.toNat) j (by omega)
      show (bridgeTo _ _ _ _ _).getD j 0 = _
      rw [this, hj j (by omega)]
theorem refL_same {xs : List Int} {gs : List (Int × Int)} (h : gapsF (xs.length : Nat) none gs = 0) : refL xs gs = bridgedL xs gs :=
  (fold_same rfl gs none xs 0 h (fun p e => by cases e) (fun _ => rfl) rfl (fun _ _ => rfl)).symm

end Go.Proofs.YtnmfeonagigkeaaDoor
