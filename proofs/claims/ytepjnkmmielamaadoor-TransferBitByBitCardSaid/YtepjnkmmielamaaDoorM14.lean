import Derived.Test.YtepjnkmmielamaaDoorM13
namespace Go.Proofs.YtepjnkmmielamaaDoor

def bq : Nat → Int
  | 0 => 0
  | i + 1 => 4 * bq i + 60000000
theorem bq_nonneg (i : Nat) : 0 ≤ bq i := by
  induction i with
  | zero => simp [bq]
  | succ i ih => simp only [bq]; omega
theorem bq_7 (i : Nat) (h : i ≤ 7) : bq i ≤ 327660000000 := by
  match i, h with
  | 0, _ => decide
  | 1, _ => decide
  | 2, _ => decide
  | 3, _ => decide
  | 4, _ => decide
  | 5, _ => decide
  | 6, _ => decide
  | 7, _ => decide

theorem getD_snoc (l : List Int) (v : Int) (j : Nat) : (l ++ [v]).getD j 0 = if j < l.length then l.getD j 0 else if j = l.length then v else 0 := by
  simp only [List.getD_eq_getElem?_getD]
  split
  · rename_i h; rw [List.getElem?_append_left h]
  · split
    · rename_i h; subst h; simp
    · rename_i h h2; rw [List.getElem?_eq_none (by simp; omega)]; rfl

theorem unfT_bq (us : List Int) (p : Nat) (hu : ∀ j, 0 ≤ us.getD j 0 ∧ us.getD j 0 ≤ 60000000) (i : Nat) : Bnd (unfT us p i) (bq i) := by
  induction i with
  | zero => intro j; simp [unfT, bq]
  | succ i ih =>
    have h0 := bq_nonneg i
    intro j
    simp only [unfT]
    rw [getD_snoc, unfT_length]
    simp only [bq]
    split
    · have := ih j; omega
    · split
      · have a := expd_bd (unfT us p i) i p (bq i) ih h0
        have b := unfold1_bd _ (hu i).1 (hu i).2
        omega
      · omega
theorem Bnd.pad {xs : List Int} {M : Int} (h : Bnd xs M) (hM : 0 ≤ M) : Bnd (padU xs) M := by
  intro j
  rcases Nat.lt_or_ge j xs.length with hc | hc
  · rw [padU_at xs j hc]; exact h j
  · have e : (padU xs).getD j 0 = 0 := by
      simp only [padU, List.getD_eq_getElem?_getD]
      rw [List.getElem?_append_right hc, List.getElem?_replicate]
      split <;> rfl
    rw [e]; omega
theorem unfT_pad_bnd (us : List Int) (p : Nat) (hu : ∀ j, 0 ≤ us.getD j 0 ∧ us.getD j 0 ≤ 60000000) (i : Nat) (hi : i ≤ 7) : Bnd (padU (unfT us p i)) 327660000000 := by
  have h := (unfT_bq us p hu i).pad (bq_nonneg i)
  have b := bq_7 i hi
  intro j
  have := h j
  omega
theorem expd_pad (us : List Int) (p i : Nat) : expd (padU (unfT us p i)) i p = expd (unfT us p i) i p :=
  expd_congr _ _ _ _ fun j hj => padU_at _ _ (by rw [unfT_length]; exact hj)
theorem unfT_step (us : List Int) (p i : Nat) (hi : i < 8) : (padU (unfT us p i)).set i (expd (unfT us p i) i p + unfold1 (us.getD i 0)) = padU (unfT us p (i + 1)) := by
  have := padU_set (unfT us p i) (expd (unfT us p i) i p + unfold1 (us.getD i 0)) (by rw [unfT_length]; exact hi)
  rw [unfT_length] at this
  exact this
theorem numsU_getD (l : List Int) (k j : Nat) (h : Bits01 l) (hk : k ≤ 17) (hn : l.length ≤ 400) : ∀ i, 0 ≤ (numsU l k j).getD i 0 ∧ (numsU l k j).getD i 0 ≤ 60000000 := by
  intro i
  rcases Nat.lt_or_ge i (numsU l k j).length with hc | hc
  · have e : (numsU l k j).getD i 0 = (numsU l k j)[i] := by simp [List.getD_eq_getElem?_getD, List.getElem?_eq_getElem hc]
    rw [e]; exact numsU_bd l k j h hk hn _ (List.getElem_mem hc)
  · have e : (numsU l k j).getD i 0 = 0 := by simp [List.getD_eq_getElem?_getD, List.getElem?_eq_none hc]
    rw [e]; omega

end Go.Proofs.YtepjnkmmielamaaDoor
