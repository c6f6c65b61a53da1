import Derived.Test.YtepjnkmmielamaaDoorM10
namespace Go.Proofs.YtepjnkmmielamaaDoor

def unfold1 (u : Int) : Int := if u % 2 = 1 then -(u / 2) - 1 else u / 2
theorem unfold_fold (r : Int) : unfold1 (fold1 r) = r := by
  unfold unfold1 fold1
  split <;> split <;> omega

/-- The first samples that residuals stand for. -/
def unfT (us : List Int) (p : Nat) : Nat → List Int
  | 0 => []
  | i + 1 => unfT us p i ++ [expd (unfT us p i) i p + unfold1 (us.getD i 0)]
theorem unfT_length (us : List Int) (p i : Nat) : (unfT us p i).length = i := by
  induction i with
  | zero => rfl
  | succ i ih => simp [unfT, ih]

theorem expd_congr (xs ys : List Int) (i p : Nat) (h : ∀ j, j < i → xs.getD j 0 = ys.getD j 0) : expd xs i p = expd ys i p := by
  unfold expd expd2 expT
  congr 1
  · split
    · rw [h _ (by omega)]
    · rfl
  · split
    · rw [h _ (by omega)]
    · rfl

theorem unfT_fold (xs : List Int) (p i : Nat) (hx : xs.length = 8) (hi : i ≤ 8) : unfT (foldeds xs p) p i = xs.take i := by
  induction i with
  | zero => simp [unfT]
  | succ i ih =>
    have ih := ih (by omega)
    have e : expd (xs.take i) i p = expd xs i p := expd_congr _ _ _ _ fun j hj => by
      simp [List.getD_eq_getElem?_getD, List.getElem?_take, hj]
    simp only [unfT]
    rw [ih, e, foldeds_at xs p i (by omega), unfold_fold, List.take_succ_eq_append_getElem (by omega)]
    congr 2
    simp [List.getD_eq_getElem?_getD, List.getElem?_eq_getElem (show i < xs.length by omega)]
    omega

theorem read_codes (us : List Int) (k j : Nat) (r : List Int) (hs : Small us) (hj : j ≤ us.length) :
    restR (codesTo us k j ++ r) k j = r ∧ numsU (codesTo us k j ++ r) k j = us.take j ∧ okR (codesTo us k j ++ r) k j = true := by
  induction j generalizing r with
  | zero => simp [codesTo, restR, numsU, okR]
  | succ j ih =>
    obtain ⟨h1, h2, h3⟩ := ih (codeU (us.getD j 0).toNat k ++ r) (by omega)
    have e : codesTo us k (j + 1) ++ r = codesTo us k j ++ (codeU (us.getD j 0).toNat k ++ r) := by simp [codesTo]
    rw [e]
    refine ⟨?_, ?_, ?_⟩
    · simp only [restR]; rw [h1, stepR_code]
    · simp only [numsU]
      rw [h1, h2, stepU_code, List.take_succ_eq_append_getElem (by omega)]
      congr 2
      have := (hs j).1
      have e2 : us.getD j 0 = us[j] := by simp [List.getD_eq_getElem?_getD, List.getElem?_eq_getElem (show j < us.length by omega)]
      rw [← e2]
      omega
    · simp only [okR]; rw [h1, h3, stepOk_code]; rfl

theorem read_cut (us : List Int) (k : Nat) (hs : Small us) (hl : us.length = 8) : okR (codesTo us k 8).dropLast k 8 = false := by
  have e : (codesTo us k 8).dropLast = codesTo us k 7 ++ (codeU (us.getD 7 0).toNat k).dropLast := by
    show (codesTo us k 7 ++ codeU (us.getD 7 0).toNat k).dropLast = _
    exact List.dropLast_append_of_ne_nil (by simp [codeU])
  obtain ⟨h1, _, _⟩ := read_codes us k 7 (codeU (us.getD 7 0).toNat k).dropLast hs (by omega)
  rw [e]
  simp only [okR.eq_2 _ _ 7]
  rw [h1, stepOk_cut, Bool.and_false]

theorem stepS_le (xs : List Int) (s : Nat × Nat × Int) (p k : Nat) : (stepS xs s p k).2.2 ≤ s.2.2 ∧ (stepS xs s p k).2.2 ≤ bitsF (foldeds xs p) k := by
  unfold stepS
  split
  · exact ⟨by simp; omega, by simp⟩
  · exact ⟨by omega, by omega⟩
theorem innerS_le (xs : List Int) (s : Nat × Nat × Int) (p k : Nat) : (innerS xs s p k).2.2 ≤ s.2.2 ∧ ∀ j, j < k → (innerS xs s p k).2.2 ≤ bitsF (foldeds xs p) j := by
  induction k with
  | zero => exact ⟨by simp [innerS], fun j hj => by omega⟩
  | succ k ih =>
    have h := stepS_le xs (innerS xs s p k) p k
    refine ⟨Int.le_trans h.1 ih.1, fun j hj => ?_⟩
    rcases Nat.lt_or_ge j k with hc | hc
    · exact Int.le_trans h.1 (ih.2 j hc)
    · obtain rfl : j = k := by omega
      exact h.2
theorem outerS_le (xs : List Int) (s : Nat × Nat × Int) (p : Nat) : ∀ q, q < p → ∀ j, j < 18 → (outerS xs s p).2.2 ≤ bitsF (foldeds xs q) j := by
  induction p with
  | zero => intro q hq; omega
  | succ p ih =>
    intro q hq j hj
    have h := innerS_le xs (outerS xs s p) p 18
    rcases Nat.lt_or_ge q p with hc | hc
    · exact Int.le_trans h.1 (ih q hc j hj)
    · obtain rfl : q = p := by omega
      exact h.2 j hj

theorem packT_length (xs : List Int) (hb : Bnd xs 32767) : ((packT xs).length : Int) = bitsF (foldeds xs (shortS xs).1) (shortS xs).2.1 := by
  unfold packT bitsF
  have := packW_length (foldeds xs (shortS xs).1) (shortS xs).1 (shortS xs).2.1 8 (foldeds_small xs _ hb) (by rw [foldeds_length]; omega)
  exact this
theorem packT_least (xs : List Int) (hb : Bnd xs 32767) (p k : Nat) (hp : p < 3) (hk : k < 18) : ((packT xs).length : Int) ≤ bitsF (foldeds xs p) k := by
  have e := packT_length xs hb
  have g := (shortS_good xs).2.2
  have l : (shortS xs).2.2 ≤ bitsF (foldeds xs p) k := by rw [shortS]; exact outerS_le xs (startS xs) 3 p hp k hk
  generalize shortS xs = s at e g l
  rw [e, ← g]
  exact l

theorem bitsTo_le (us : List Int) (k j : Nat) (M : Int) (hj : j ≤ us.length) (h : ∀ i, i < us.length → us.getD i 0 / 2 ^ k ≤ M) : bitsTo us k j ≤ 7 + (M + 1 + k) * j := by
  induction j with
  | zero => rw [bitsTo_zero]; simp
  | succ j ih =>
    rw [bitsTo_step us k j (by omega)]
    have a := ih (by omega)
    have b := h j (by omega)
    have e : (M + 1 + (k : Int)) * ((j + 1 : Nat) : Int) = (M + 1 + k) * j + (M + 1 + k) := by
      rw [Int.natCast_add, Int.mul_add]; simp
    rw [e]
    omega
theorem bitsTo_ge (us : List Int) (k j : Nat) (hj : j ≤ us.length) (hs : Small us) : 7 + (j : Int) ≤ bitsTo us k j := by
  induction j with
  | zero => rw [bitsTo_zero]; simp
  | succ j ih =>
    rw [bitsTo_step us k j (by omega)]
    have a := ih (by omega)
    have b := quo_bd (us.getD j 0) k (hs j).1 (hs j).2
    omega
theorem packT_bd (xs : List Int) (hb : Bnd xs 32767) : 15 ≤ (packT xs).length ∧ (packT xs).length ≤ 159 := by
  refine ⟨?_, ?_⟩
  · have h1 := packT_length xs hb
    have h2 := bitsTo_ge (foldeds xs (shortS xs).1) (shortS xs).2.1 8 (by rw [foldeds_length]; omega) (foldeds_small xs _ hb)
    unfold bitsF at h1
    omega
  · have h1 := packT_least xs hb 0 16 (by omega) (by omega)
    have h2 := bitsTo_le (foldeds xs 0) 16 8 0 (by rw [foldeds_length]; omega) (fun i hi => by
      rw [foldeds_length] at hi
      rw [foldeds_at xs 0 i hi]
      have e : expd xs i 0 = 0 := by
        unfold expd expd2 expT pred0 pred1
        simp
      have := hb i
      rw [e]
      unfold fold1
      split <;> omega)
    unfold bitsF at h1
    omega

theorem headB_two (p k : Nat) (r : List Int) : (headB p k ++ r).take 2 = bitsOf p 2 := by
  unfold headB
  rw [List.append_assoc, List.take_append_of_le_length (by rw [bitsOf_length]; omega), List.take_of_length_le (by rw [bitsOf_length]; omega)]
theorem headB_five (p k : Nat) (r : List Int) : ((headB p k ++ r).drop 2).take 5 = bitsOf k 5 := by
  unfold headB
  rw [List.append_assoc, List.drop_append, List.drop_of_length_le (by rw [bitsOf_length]; omega), bitsOf_length]
  rw [List.nil_append, Nat.sub_self, List.drop_zero, List.take_append_of_le_length (by rw [bitsOf_length]; omega), List.take_of_length_le (by rw [bitsOf_length]; omega)]
theorem headB_rest (p k : Nat) (r : List Int) : (headB p k ++ r).drop 7 = r := by
  rw [List.drop_append, List.drop_of_length_le (by rw [headB_length]; omega), headB_length]
  simp
theorem codeU_01 (u k : Nat) : Bits01 (codeU u k) := by
  intro x hx
  simp only [codeU, List.mem_append, List.mem_cons] at hx
  rcases hx with hx | hx | hx
  · exact .inr (List.eq_of_mem_replicate hx)
  · exact .inl hx
  · exact bitsOf_01 u k x hx
theorem codesTo_01 (us : List Int) (k i : Nat) : Bits01 (codesTo us k i) := by
  induction i with
  | zero => intro x hx; simp [codesTo] at hx
  | succ i ih =>
    intro x hx
    simp only [codesTo, List.mem_append] at hx
    exact hx.elim (ih x) (codeU_01 _ _ x)
theorem packT_01 (xs : List Int) : Bits01 (packT xs) := by
  intro x hx
  simp only [packT, packW, headB, List.mem_append] at hx
  rcases hx with (hx | hx) | hx
  · exact bitsOf_01 _ _ x hx
  · exact bitsOf_01 _ _ x hx
  · exact codesTo_01 _ _ _ x hx

end Go.Proofs.YtepjnkmmielamaaDoor
