import Derived.Test.YtpkjkegcdddimaaDoorH1
namespace Go.Proofs.YtpkjkegcdddimaaDoor

def chSum (costs : List Int) (bend : Int) (c : Nat) (x : Int) : Int := costs.getD x.toNat 0 + (if x = c then 0 else bend)
theorem chFold (costs : List Int) (bend : Int) (c : Nat) : ∀ (l : List Int) (s : Int × Int),
    (l.foldl (chStep costs bend c) s).2 ≤ s.2 ∧ (∀ x ∈ l, (l.foldl (chStep costs bend c) s).2 ≤ chSum costs bend c x) ∧
    ((l.foldl (chStep costs bend c) s) = s ∨ ∃ x ∈ l, (l.foldl (chStep costs bend c) s) = (x, chSum costs bend c x))
  | [], s => ⟨Int.le_refl _, by simp, .inl rfl⟩
  | x :: l, s => by
    have ih := chFold costs bend c l (chStep costs bend c s x)
    have hs : (chStep costs bend c s x).2 ≤ s.2 ∧ (chStep costs bend c s x).2 ≤ chSum costs bend c x ∧ (chStep costs bend c s x = s ∨ chStep costs bend c s x = (x, chSum costs bend c x)) := by
      have e : chStep costs bend c s x = if chSum costs bend c x < s.2 then (x, chSum costs bend c x) else s := rfl
      rw [e]
      by_cases h : chSum costs bend c x < s.2
      · rw [if_pos h]; exact ⟨by dsimp only; omega, by dsimp only; omega, .inr rfl⟩
      · rw [if_neg h]; exact ⟨by omega, by omega, .inl rfl⟩
    rw [List.foldl_cons]
    refine ⟨by omega, ?_, ?_⟩
    · intro y hy
      rcases List.mem_cons.1 hy with rfl | hy
      · omega
      · exact ih.2.1 y hy
    · rcases ih.2.2 with e | ⟨y, hy, e⟩
      · rw [e]
        rcases hs.2.2 with e' | e'
        · exact .inl e'
        · exact .inr ⟨x, by simp, e'⟩
      · exact .inr ⟨y, by simp [hy], e⟩

theorem nbrs_ne (c cols : Nat) (h : c < cols) : (c : Int) ∈ nbrs c cols := by
  simp only [nbrs, List.mem_map, List.mem_range, nbrCount]
  refine ⟨if c = 0 then 0 else 1, ?_, ?_⟩
  · split <;> omega
  · split <;> omega
theorem nbrs_near {c cols : Nat} (h : c < cols) {x : Int} (hx : x ∈ nbrs c cols) : 0 ≤ x ∧ x < cols ∧ (c : Int) - 1 ≤ x ∧ x ≤ c + 1 := by
  simp only [nbrs, List.mem_map, List.mem_range, nbrCount] at hx
  obtain ⟨k, hk, rfl⟩ := hx
  omega

/-- The cheapest neighbour: one of them, at its sum, which is the least. -/
theorem chp_spec (costs : List Int) (b M : Int) (c cols : Nat) (hc : c < cols) (hl : costs.length = cols) (hb : 0 ≤ b) (hM : M + b < 9223372036854775807) (hcs : ∀ x ∈ costs, 0 ≤ x ∧ x ≤ M) :
    (chp costs b c cols).1 ∈ nbrs c cols ∧ (chp costs b c cols).2 = chSum costs b c (chp costs b c cols).1 ∧ 0 ≤ (chp costs b c cols).2 ∧ (chp costs b c cols).2 ≤ M + b ∧ ∀ x ∈ nbrs c cols, (chp costs b c cols).2 ≤ chSum costs b c x := by
  have hsum : ∀ x ∈ nbrs c cols, 0 ≤ chSum costs b c x ∧ chSum costs b c x ≤ M + b := by
    intro x hx
    have h1 := nbrs_near hc hx
    have h2 : 0 ≤ costs.getD x.toNat 0 ∧ costs.getD x.toNat 0 ≤ M := by
      have : x.toNat < costs.length := by omega
      rw [List.getD_eq_getElem?_getD, List.getElem?_eq_getElem this]
      exact hcs _ (List.getElem_mem _)
    unfold chSum
    split <;> omega
  obtain ⟨h1, h2, h3⟩ := chFold costs b c (nbrs c cols) (0, 9223372036854775807)
  change (chp costs b c cols).2 ≤ _ at h1
  have h4 := hsum _ (nbrs_ne c cols hc)
  have h5 := h2 _ (nbrs_ne c cols hc)
  change (chp costs b c cols).2 ≤ _ at h5
  rcases h3 with e | ⟨x, hx, e⟩
  · change chp costs b c cols = _ at e
    rw [e] at h5
    dsimp only at h5
    omega
  · change chp costs b c cols = _ at e
    have h6 := hsum x hx
    have h7 : (chp costs b c cols).2 = chSum costs b c x := by rw [e]
    refine ⟨by rw [e]; exact hx, by rw [e], by omega, by omega, h2⟩

def lastRow (may : Nat → Bool) (vals : List Int) : List Int := (List.range vals.length).map fun c => vals.getD c 0 + if may c = true then 0 else 50200
def stepRow (b : Int) (cols : Nat) (next vals : List Int) : List Int := (List.range vals.length).map fun c => vals.getD c 0 + (chp next b c cols).2
def restRow (may : Nat → Bool) (b : Int) (cols : Nat) (r : List Int) (t : List (List Int)) : List Int := if t = [] then lastRow may r else stepRow b cols (t.getD 0 []) r
/-- The minimum costs of the rests. -/
def restsL (may : Nat → Bool) (b : Int) (cols : Nat) : List (List Int) → List (List Int)
  | [] => []
  | r :: rs => restRow may b cols r (restsL may b cols rs) :: restsL may b cols rs
theorem restsL_length (may : Nat → Bool) (b : Int) (cols : Nat) : ∀ rows, (restsL may b cols rows).length = rows.length
  | [] => rfl
  | _ :: rs => by simp [restsL, restsL_length may b cols rs]
theorem restsL_drop (may : Nat → Bool) (b : Int) (cols : Nat) : ∀ (j : Nat) (rows : List (List Int)), (restsL may b cols rows).drop j = restsL may b cols (rows.drop j)
  | 0, _ => by simp
  | j + 1, [] => by simp [restsL]
  | j + 1, r :: rs => by simp [restsL, restsL_drop may b cols j rs]
theorem getD_drop {α : Type} (l : List α) (j : Nat) (d : α) : (l.drop j).getD 0 d = l.getD j d := by simp [List.getD_eq_getElem?_getD]
theorem restRow_length (may : Nat → Bool) (b : Int) (cols : Nat) (r : List Int) (t : List (List Int)) : (restRow may b cols r t).length = r.length := by
  unfold restRow; split <;> simp [lastRow, stepRow]
/-- The row of the rests at one place. -/
theorem restsL_row (may : Nat → Bool) (b : Int) (cols : Nat) (rows : List (List Int)) (j : Nat) (h : j < rows.length) :
    (restsL may b cols rows).getD j [] = if j + 1 = rows.length then lastRow may (rows.getD j []) else stepRow b cols ((restsL may b cols rows).getD (j + 1) []) (rows.getD j []) := by
  rw [← getD_drop, restsL_drop, List.drop_eq_getElem_cons h]
  show restRow _ _ _ _ _ = _
  have hr : rows.getD j [] = rows[j] := by simp [List.getD_eq_getElem?_getD, List.getElem?_eq_getElem h]
  unfold restRow
  by_cases e : j + 1 = rows.length
  · rw [if_pos (by rw [List.drop_eq_nil_of_le (by omega)]; rfl), if_pos e, hr]
  · have hne : restsL may b cols (rows.drop (j + 1)) ≠ [] := by
      intro e'
      have := congrArg List.length e'
      rw [restsL_length] at this
      simp at this; omega
    rw [if_neg hne, if_neg e, hr, ← restsL_drop, getD_drop]
theorem restsL_rowlen (may : Nat → Bool) (b : Int) (cols : Nat) (rows : List (List Int)) (hr : ∀ r ∈ rows, r.length = cols) (j : Nat) (h : j < rows.length) : ((restsL may b cols rows).getD j []).length = cols := by
  rw [← getD_drop, restsL_drop, List.drop_eq_getElem_cons h]
  show (restRow _ _ _ _ _).length = _
  rw [restRow_length]
  exact hr _ (List.getElem_mem _)
/-- The bound of the rests' costs. -/
theorem restsL_bd (may : Nat → Bool) (b : Int) (cols : Nat) (hb : 0 ≤ b ∧ b ≤ 1000) : ∀ (rows : List (List Int)), (∀ r ∈ rows, r.length = cols ∧ ∀ x ∈ r, 0 ≤ x ∧ x ≤ 255) → rows.length ≤ 1000000 →
    ∀ r ∈ restsL may b cols rows, ∀ x ∈ r, 0 ≤ x ∧ x ≤ 50200 + 1255 * (rows.length : Int)
  | [], _, _, r, h => by simp [restsL] at h
  | a :: l, hr, hlen, r, h => by
    have ih := restsL_bd may b cols hb l (fun r h => hr r (by simp [h])) (by simp at hlen; omega)
    have ha := hr a (by simp)
    rcases List.mem_cons.1 h with rfl | h
    · intro x hx
      unfold restRow at hx
      by_cases e : restsL may b cols l = []
      · rw [if_pos e] at hx
        simp only [lastRow, List.mem_map, List.mem_range] at hx
        obtain ⟨c, hc, rfl⟩ := hx
        have h1 := ha.2 (a.getD c 0) (by rw [List.getD_eq_getElem?_getD, List.getElem?_eq_getElem hc]; exact List.getElem_mem _)
        rw [List.length_cons]
        split <;> omega
      · rw [if_neg e] at hx
        simp only [stepRow, List.mem_map, List.mem_range] at hx
        obtain ⟨c, hc, rfl⟩ := hx
        have h1 := ha.2 (a.getD c 0) (by rw [List.getD_eq_getElem?_getD, List.getElem?_eq_getElem hc]; exact List.getElem_mem _)
        have hl0 : 0 < l.length := by
          rcases l with _ | ⟨_, _⟩
          · exact absurd rfl e
          · simp
        have hmem : (restsL may b cols l).getD 0 [] ∈ restsL may b cols l := by
          rw [List.getD_eq_getElem?_getD, List.getElem?_eq_getElem (by rw [restsL_length]; exact hl0)]
          exact List.getElem_mem _
        have h2 := chp_spec ((restsL may b cols l).getD 0 []) b (50200 + 1255 * (l.length : Int)) c cols (by omega) (restsL_rowlen may b cols l (fun r h => (hr r (by simp [h])).1) 0 hl0) hb.1 (by rw [List.length_cons] at hlen; omega) (ih _ hmem)
        rw [List.length_cons]
        omega
    · intro x hx
      have := ih r h x hx
      rw [List.length_cons]
      omega

end Go.Proofs.YtpkjkegcdddimaaDoor
