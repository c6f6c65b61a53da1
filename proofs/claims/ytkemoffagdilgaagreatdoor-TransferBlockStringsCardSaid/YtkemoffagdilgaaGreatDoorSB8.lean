import Derived.Test.YtkemoffagdilgaaGreatDoorSB6
namespace Go.Proofs.YtkemoffagdilgaaGreatDoor
open Go.RowKit

theorem itoaB_all (n : Int) : ∀ b ∈ Lib.itoa n, b ≠ 32 := by
  intro b hb
  have := itoa_all n b hb
  rintro rfl; revert this; decide
theorem numS_int (x : Int) (h : -1000000 < x ∧ x < 1000000) : numS (Lib.itoa x) 6 = some x := by
  rcases Int.lt_trichotomy x 0 with h0 | h0 | h0
  · obtain ⟨u, hu⟩ : ∃ u : Nat, x = -(u : Int) := ⟨x.natAbs, by omega⟩
    rw [hu, Lib.itoa_neg u (by omega)]
    unfold numS
    rw [if_pos (show (45 :: Lib.decDigits u).head? = some 45 from rfl), List.tail_cons]
    have hd : digs (Lib.decDigits u) 6 false = some u := by
      have h1 := digs_digits u 6 (by omega) (by omega)
      have hne := decDigits_ne u
      have hh := decDigits_head u (by omega)
      have hl := digitsB_len u 6 (by omega) (by omega)
      unfold digs
      rw [if_neg]
      · exact decFrom_digits u
      · rintro (e | e | e)
        · exact hne e
        · omega
        · exact hh e.1
    rw [hd]; rfl
  · subst h0
    decide +kernel
  · obtain ⟨u, hu⟩ : ∃ u : Nat, x = (u : Int) := ⟨x.toNat, by omega⟩
    rw [hu, Lib.itoa_nonneg u]
    unfold numS
    have hh : (Lib.decDigits u).head? ≠ some 45 := by
      intro e
      have hm : (45 : UInt8) ∈ Lib.decDigits u := List.mem_of_mem_head? e
      have := decDigits_all u 45 hm
      revert this; decide
    rw [if_neg hh, digs_digits u 6 (by omega) (by omega)]
    rfl
theorem pcs_joinP (f : Nat → Int) : pcs 32 (joinP (intsB f)) = (intsB f).map Lib.itoa := by
  refine pcs_join 32 _ (by simp [intsB]) ?_
  intro x hx b hb
  obtain ⟨y, _, rfl⟩ := List.mem_map.1 hx
  exact itoaB_all y b hb
theorem tB_ints (f : Nat → Int) (i : Nat) (h : i < 11) : tB ((intsB f).map Lib.itoa) i = Lib.itoa (f i) := by
  rcases j11 h with rfl | rfl | rfl | rfl | rfl | rfl | rfl | rfl | rfl | rfl | rfl <;> rfl
theorem blockB_back (f : Nat → Int) (h1 : ∀ i, i < 11 → -1000000 < f i ∧ f i < 1000000) (h2 : 0 ≤ f 0 ∧ 0 ≤ f 1 ∧ 0 ≤ f 10) (hE : errB f = 0) :
    parB (pcs 32 (⟨(joinP (intsB f)).toArray⟩ : ByteArray).data.toList) = (bRow f, 0) := by
  have e0 : (⟨(joinP (intsB f)).toArray⟩ : ByteArray).data.toList = joinP (intsB f) := by simp
  rw [e0, pcs_joinP]
  have hv : ∀ i, i < 11 → numS (tB ((intsB f).map Lib.itoa) i) 6 = some (f i) := fun i hi => by rw [tB_ints f i hi]; exact numS_int _ (h1 i hi)
  have hg : ∀ i, i < 11 → goodB ((intsB f).map Lib.itoa) i := by
    intro i hi
    refine ⟨f i, hv i hi, ?_⟩
    by_cases hm : 2 ≤ i ∧ i ≤ 9
    · exact .inr hm
    · refine .inl ?_
      rcases (show i = 0 ∨ i = 1 ∨ i = 10 by omega) with rfl | rfl | rfl
      · exact h2.1
      · exact h2.2.1
      · exact h2.2.2
  have hval : ∀ i, i < 11 → valB ((intsB f).map Lib.itoa) i = f i := fun i hi => by unfold valB; rw [hv i hi]; rfl
  rw [parB_good rfl hg]
  have hr : bRow (valB ((intsB f).map Lib.itoa)) = bRow f := by
    simp only [bRow, hval 0 (by omega), hval 1 (by omega), hval 2 (by omega), hval 3 (by omega), hval 4 (by omega), hval 5 (by omega), hval 6 (by omega), hval 7 (by omega), hval 8 (by omega), hval 9 (by omega), hval 10 (by omega)]
  have he : errB (valB ((intsB f).map Lib.itoa)) = errB f := by
    unfold errB
    rw [hval 0 (by omega), hval 1 (by omega), hval 2 (by omega), hval 3 (by omega), hval 4 (by omega), hval 5 (by omega), hval 6 (by omega), hval 7 (by omega), hval 8 (by omega), hval 9 (by omega), hval 10 (by omega)]
  rw [hr, he, if_pos hE]

theorem errB_bd (f : Nat → Int) (h : errB f = 0) : (∀ i, i < 11 → -1000000 < f i ∧ f i < 1000000) ∧ (0 ≤ f 0 ∧ 0 ≤ f 1 ∧ 0 ≤ f 10) := by
  unfold errB blockE at h
  by_cases hc : contE (f 0) (f 1) [f 2, f 3, f 4, f 5, f 6, f 7, f 8, f 9] = 0
  · rw [if_pos hc] at h
    obtain ⟨h0, h1, hx⟩ := contE_ok hc
    by_cases hs : f 10 = sumT (f 0) (f 1) [f 2, f 3, f 4, f 5, f 6, f 7, f 8, f 9]
    · have hb : 0 ≤ sumT (f 0) (f 1) [f 2, f 3, f 4, f 5, f 6, f 7, f 8, f 9] ∧ sumT (f 0) (f 1) [f 2, f 3, f 4, f 5, f 6, f 7, f 8, f 9] < 65537 := by unfold sumT; omega
      rw [← hs] at hb
      refine ⟨?_, h0.1, h1.1, hb.1⟩
      intro i hi
      have g : ∀ k : Nat, k < 8 → -32767 ≤ ([f 2, f 3, f 4, f 5, f 6, f 7, f 8, f 9] : List Int).getD k 0 ∧ ([f 2, f 3, f 4, f 5, f 6, f 7, f 8, f 9] : List Int).getD k 0 ≤ 32767 := by
        intro k hk
        first | exact hx k | exact hx k hk | (have := hx k; constructor <;> omega) | (have := hx k hk; constructor <;> omega)
      rcases j11 hi with rfl | rfl | rfl | rfl | rfl | rfl | rfl | rfl | rfl | rfl | rfl
      · omega
      · omega
      · have := g 0 (by omega); simp at this; omega
      · have := g 1 (by omega); simp at this; omega
      · have := g 2 (by omega); simp at this; omega
      · have := g 3 (by omega); simp at this; omega
      · have := g 4 (by omega); simp at this; omega
      · have := g 5 (by omega); simp at this; omega
      · have := g 6 (by omega); simp at this; omega
      · have := g 7 (by omega); simp at this; omega
      · omega
    · rw [if_neg hs] at h; cases h
  · rw [if_neg hc] at h; cases h

end Go.Proofs.YtkemoffagdilgaaGreatDoor
