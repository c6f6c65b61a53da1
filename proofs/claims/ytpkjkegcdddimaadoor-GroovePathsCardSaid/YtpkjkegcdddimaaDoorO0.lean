import Derived.Test.YtpkjkegcdddimaaDoorN0
namespace Go.Proofs.YtpkjkegcdddimaaDoor

theorem getD_inO {α : Type} (l : List (List α)) (j : Nat) (h : j < l.length) : l.getD j [] ∈ l := by
  rw [List.getD_eq_getElem?_getD, List.getElem?_eq_getElem h]; exact List.getElem_mem _
theorem nonneg_x {rows : List (List Int)} {b : Int} {n m : Nat} (may : Nat → Bool) (h : TkOk rows b n m) {j c : Nat} (hj : j < n) (hc : c < m) : 0 ≤ cellV (restsL may b m rows) j c := by
  have h2 := X_ok may h j hj
  have h3 : c < ((restsL may b m rows).getD j []).length := by rw [h2.1]; exact hc
  unfold cellV
  rw [List.getD_eq_getElem?_getD (l := (restsL may b m rows).getD j []), List.getElem?_eq_getElem h3]
  exact (h2.2 _ (List.getElem_mem h3)).1
theorem nbr_sum {rows : List (List Int)} {b : Int} {n m : Nat} (may : Nat → Bool) (h : TkOk rows b n m) {j c : Nat} (hj : j + 1 < n) (hc : c < m) {x : Int} (hx : x ∈ nbrs c m) :
    chSum ((restsL may b m rows).getD (j + 1) []) b c x = cellV (restsL may b m rows) (j + 1) x.toNat + (if x = c then 0 else b) ∧ x.toNat < m ∧ 0 ≤ cellV (restsL may b m rows) (j + 1) x.toNat := by
  have h1 := nbrs_near hc hx
  have h2 := X_ok may h (j + 1) hj
  refine ⟨rfl, by omega, ?_⟩
  unfold cellV
  have h3 : x.toNat < ((restsL may b m rows).getD (j + 1) []).length := by rw [h2.1]; omega
  rw [List.getD_eq_getElem?_getD (l := (restsL may b m rows).getD (j + 1) []), List.getElem?_eq_getElem h3]
  exact (h2.2 _ (List.getElem_mem h3)).1
theorem cell_row {rows : List (List Int)} {b : Int} {n m : Nat} (h : TkOk rows b n m) {j c : Nat} (hj : j < n) (hc : c < m) : 0 ≤ cellV rows j c ∧ cellV rows j c ≤ 255 := by
  have hm := getD_inO rows j (by rw [h.len]; exact hj)
  have hr := h.row _ hm
  unfold cellV
  have h3 : c < (rows.getD j []).length := by rw [hr.1]; exact hc
  rw [List.getD_eq_getElem?_getD (l := rows.getD j []), List.getElem?_eq_getElem h3]
  exact hr.2 _ (List.getElem_mem h3)
/-- A rest is cheap, or there is none. -/
theorem rest_dich {rows : List (List Int)} {b : Int} {n m : Nat} (may : Nat → Bool) (h : TkOk rows b n m) : ∀ k j, j + k + 1 = n → ∀ c, c < m → cellV (restsL may b m rows) j c ≤ 1255 * (k : Int) + 255 ∨ 50200 ≤ cellV (restsL may b m rows) j c
  | 0, j, hj, c, hc => by
    have h1 := cell_row h (j := j) (by omega) hc
    rw [X_at may h j c (by omega) hc, if_pos (by omega)]
    unfold endC
    split <;> omega
  | k + 1, j, hj, c, hc => by
    have h1 := cell_row h (j := j) (by omega) hc
    have h2 := X_ok may h (j + 1) (by omega)
    have hs := chp_spec ((restsL may b m rows).getD (j + 1) []) b 200000 c m hc h2.1 h.bb.1 (by have := h.bb; omega) h2.2
    have hn := nbr_sum may h (j := j) (by omega) hc hs.1
    have ih := rest_dich may h k (j + 1) (by omega) _ hn.2.1
    rw [X_at may h j c (by omega) hc, if_neg (by omega), hs.2.1, hn.1]
    have := h.bb
    split <;> omega
/-- A path along the cheapest neighbours, from a row on. -/
def tailP (X : List (List Int)) (b : Int) (m : Nat) : Nat → Nat → Nat → List Int
  | 0, _, c => [(c : Int)]
  | k + 1, j, c => (c : Int) :: tailP X b m k (j + 1) (chp (X.getD (j + 1) []) b c m).1.toNat
theorem tail_map (X : List (List Int)) (b : Int) (m first : Nat) : ∀ k j, ((List.range (k + 1)).map fun i => (colAt b m X first (j + i) : Int)) = tailP X b m k j (colAt b m X first j)
  | 0, j => rfl
  | k + 1, j => by
    rw [List.range_succ_eq_map, List.map_cons, List.map_map]
    show (colAt b m X first (j + 0) : Int) :: _ = (colAt b m X first j : Int) :: tailP X b m k (j + 1) (colAt b m X first (j + 1))
    rw [Nat.add_zero, ← tail_map X b m first k (j + 1)]
    congr 1
    refine List.map_congr_left fun i _ => ?_
    show (colAt b m X first (j + (i + 1)) : Int) = _
    rw [show j + (i + 1) = j + 1 + i by omega]
theorem tail_path (X : List (List Int)) (b : Int) (m first n : Nat) (h0 : 0 < n) : pathL b m X first n = tailP X b m (n - 1) 0 first := by
  have h := tail_map X b m first (n - 1) 0
  rw [show n - 1 + 1 = n by omega] at h
  simp only [Nat.zero_add] at h
  exact h
/-- What the reference has at a row. -/
def costR (X : List (List Int)) (j c : Nat) : Int := if cellV X j c < 50200 then cellV X j c else -1
def pathR (X : List (List Int)) (b : Int) (m k j c : Nat) : List Int := if cellV X j c < 50200 then tailP X b m k j c else []
/-- .. and between its neighbours. -/
def stT (X : List (List Int)) (b : Int) (m j c t : Nat) : Int × Int := chFrom (X.getD (j + 1) []) b c ((nbrs c m).take t)
def dC (X : List (List Int)) (v b : Int) (m j c t : Nat) : Int := if (stT X b m j c t).2 < 50200 then v + (stT X b m j c t).2 else -1
def dP (X : List (List Int)) (b : Int) (m k j c t : Nat) : List Int := if (stT X b m j c t).2 < 50200 then (c : Int) :: tailP X b m k (j + 1) (stT X b m j c t).1.toNat else []
theorem stT_zero (X : List (List Int)) (b : Int) (m j c : Nat) : stT X b m j c 0 = (0, 9223372036854775807) := rfl
theorem dC_zero (X : List (List Int)) (v b : Int) (m j c : Nat) : dC X v b m j c 0 = -1 := by unfold dC; rw [stT_zero]; rfl
theorem dP_zero (X : List (List Int)) (b : Int) (m k j c : Nat) : dP X b m k j c 0 = [] := by unfold dP; rw [stT_zero]; rfl
theorem stT_bd {rows : List (List Int)} {b : Int} {n m : Nat} (may : Nat → Bool) (h : TkOk rows b n m) {k j c : Nat} (hj : j + k + 2 = n) (hc : c < m) (t : Nat) : 0 ≤ (stT (restsL may b m rows) b m j c t).2 ∧ ((stT (restsL may b m rows) b m j c t).2 ≤ 1255 * (k : Int) + 1255 ∨ 50200 ≤ (stT (restsL may b m rows) b m j c t).2) := by
  have h3 := (chFold ((restsL may b m rows).getD (j + 1) []) b c ((nbrs c m).take t) (0, 9223372036854775807)).2.2
  rcases h3 with e | ⟨x, hx, e⟩
  · have e2 : stT (restsL may b m rows) b m j c t = (0, 9223372036854775807) := e
    rw [e2]
    dsimp only
    omega
  · have e2 : stT (restsL may b m rows) b m j c t = (x, chSum ((restsL may b m rows).getD (j + 1) []) b c x) := e
    have hn := nbr_sum may h (j := j) (by omega) hc (List.mem_of_mem_take hx)
    have hd := rest_dich may h k (j + 1) (by omega) _ hn.2.1
    rw [e2]
    dsimp only
    rw [hn.1]
    have := h.bb
    split <;> omega
theorem stT_succ (X : List (List Int)) (b : Int) (m j c t : Nat) (ht : t < nbrCount c m) : stT X b m j c (t + 1) = if cellV X (j + 1) (c - 1 + t) + (if c - 1 + t = c then 0 else b) < (stT X b m j c t).2 then (((c - 1 + t : Nat) : Int), cellV X (j + 1) (c - 1 + t) + (if c - 1 + t = c then 0 else b)) else stT X b m j c t := by
  unfold stT
  rw [nbrs_take c m t ht, chFrom_snoc]
  unfold chStep cellV
  rw [Int.toNat_natCast]
  by_cases e : c - 1 + t = c
  · have e2 : ((c - 1 + t : Nat) : Int) = (c : Int) := by rw [e]
    rw [if_pos e2, if_pos e]
  · have e2 : ¬ ((c - 1 + t : Nat) : Int) = (c : Int) := fun h => e (by omega)
    rw [if_neg e2, if_neg e]
/-- One neighbour more. -/
theorem d_step {rows : List (List Int)} {b : Int} {n m : Nat} (may : Nat → Bool) (h : TkOk rows b n m) {k j c t d : Nat} (hj : j + k + 2 = n) (hc : c < m) (ht : t < nbrCount c m) (hd : c - 1 + t = d) (v nd sum : Int) (hv : 0 ≤ v) (hnd : costR (restsL may b m rows) (j + 1) d = nd) (hs : v + (if c = d then 0 else b) + nd = sum) :
    ((0 ≤ nd ∧ (dC (restsL may b m rows) v b m j c t < 0 ∨ sum < dC (restsL may b m rows) v b m j c t)) → dC (restsL may b m rows) v b m j c (t + 1) = sum ∧ dP (restsL may b m rows) b m k j c (t + 1) = (c : Int) :: pathR (restsL may b m rows) b m k (j + 1) d) ∧
    (¬ (0 ≤ nd ∧ (dC (restsL may b m rows) v b m j c t < 0 ∨ sum < dC (restsL may b m rows) v b m j c t)) → dC (restsL may b m rows) v b m j c (t + 1) = dC (restsL may b m rows) v b m j c t ∧ dP (restsL may b m rows) b m k j c (t + 1) = dP (restsL may b m rows) b m k j c t) := by
  have hdm : d < m := by unfold nbrCount at ht; omega
  have hX := rest_dich may h k (j + 1) (by omega) d hdm
  have hb := h.bb
  have hk : (k : Int) ≤ 38 := by have := h.n40; omega
  have hst := stT_bd may h hj hc t
  have hsu := stT_succ (restsL may b m rows) b m j c t ht
  rw [hd] at hsu
  have hcd : (if c = d then (0 : Int) else b) = (if d = c then 0 else b) := by
    by_cases e : c = d
    · rw [if_pos e, if_pos e.symm]
    · rw [if_neg e, if_neg (fun e' => e e'.symm)]
  rw [hcd] at hs
  obtain ⟨bd, hbd⟩ : ∃ z : Int, (if d = c then 0 else b) = z := ⟨_, rfl⟩
  rw [hbd] at hs hsu
  have hbb : 0 ≤ bd ∧ bd ≤ 1000 := by rw [← hbd]; split <;> omega
  unfold costR at hnd
  unfold pathR
  obtain ⟨x, hx⟩ : ∃ z, cellV (restsL may b m rows) (j + 1) d = z := ⟨_, rfl⟩
  rw [hx] at hX hnd hsu ⊢
  unfold dC dP
  obtain ⟨s, hs0⟩ : ∃ z, stT (restsL may b m rows) b m j c t = z := ⟨_, rfl⟩
  obtain ⟨s1, hs1⟩ : ∃ z, stT (restsL may b m rows) b m j c (t + 1) = z := ⟨_, rfl⟩
  rw [hs0] at hst hsu ⊢
  rw [hs1] at hsu ⊢
  by_cases hxf : x < 50200
  · rw [if_pos hxf] at hnd ⊢
    subst hnd
    by_cases hsf : s.2 < 50200
    · rw [if_pos hsf, if_pos hsf]
      by_cases hl : x + bd < s.2
      · rw [if_pos hl] at hsu
        subst hsu
        refine ⟨fun _ => ?_, fun hn => absurd ⟨?_, ?_⟩ hn⟩
        · dsimp only
          rw [if_pos (by omega), if_pos (by omega), Int.toNat_natCast]
          exact ⟨by omega, rfl⟩
        · have := nonneg_x may h (j := j + 1) (by omega) hdm; omega
        · right; omega
      · rw [if_neg hl] at hsu
        subst hsu
        refine ⟨fun hn => ?_, fun _ => ?_⟩
        · exfalso; omega
        · rw [if_pos hsf, if_pos hsf]; exact ⟨rfl, rfl⟩
    · rw [if_neg hsf, if_neg hsf]
      rw [if_pos (by omega)] at hsu
      subst hsu
      refine ⟨fun _ => ?_, fun hn => absurd ⟨?_, ?_⟩ hn⟩
      · dsimp only
        rw [if_pos (by omega), if_pos (by omega), Int.toNat_natCast]
        exact ⟨by omega, rfl⟩
      · have := nonneg_x may h (j := j + 1) (by omega) hdm; omega
      · left; omega
  · rw [if_neg hxf] at hnd
    subst hnd
    refine ⟨fun hn => absurd hn.1 (by omega), fun _ => ?_⟩
    by_cases hsf : s.2 < 50200
    · rw [if_neg (by omega)] at hsu
      subst hsu
      exact ⟨rfl, rfl⟩
    · have : ¬ s1.2 < 50200 := by
        rw [hsu]
        split
        · dsimp only; omega
        · exact hsf
      rw [if_neg this, if_neg this, if_neg hsf, if_neg hsf]
      exact ⟨rfl, rfl⟩
/-- All neighbours. -/
theorem d_all {rows : List (List Int)} {b : Int} {n m : Nat} (may : Nat → Bool) (h : TkOk rows b n m) {k j c : Nat} (hj : j + k + 2 = n) (hc : c < m) : dC (restsL may b m rows) (cellV rows j c) b m j c (nbrCount c m) = costR (restsL may b m rows) j c ∧ dP (restsL may b m rows) b m k j c (nbrCount c m) = pathR (restsL may b m rows) b m (k + 1) j c := by
  have h1 := cell_row h (j := j) (by omega) hc
  have hst := stT_bd may h hj hc (nbrCount c m)
  have he : stT (restsL may b m rows) b m j c (nbrCount c m) = chp ((restsL may b m rows).getD (j + 1) []) b c m := by
    unfold stT chp
    rw [List.take_of_length_le (by rw [nbrs_length]; exact Nat.le_refl _)]
  have hk : (k : Int) ≤ 38 := by have := h.n40; omega
  rw [he] at hst
  unfold dC dP costR pathR
  rw [he, X_at may h j c (by omega) hc, if_neg (show ¬ j + 1 = n by omega)]
  by_cases hf : (chp ((restsL may b m rows).getD (j + 1) []) b c m).2 < 50200
  · rw [if_pos hf, if_pos hf, if_pos (by omega), if_pos (by omega)]
    exact ⟨rfl, rfl⟩
  · rw [if_neg hf, if_neg hf, if_neg (by omega), if_neg (by omega)]
    exact ⟨rfl, rfl⟩
/-- The last row. -/
theorem last_row {rows : List (List Int)} {b : Int} {n m : Nat} (may : Nat → Bool) (h : TkOk rows b n m) {j c : Nat} (hj : j + 1 = n) (hc : c < m) : costR (restsL may b m rows) j c = (if may c = true then cellV rows j c else -1) ∧ pathR (restsL may b m rows) b m 0 j c = (if may c = true then [(c : Int)] else []) := by
  have h1 := cell_row h (j := j) (by omega) hc
  unfold costR pathR
  rw [X_at may h j c (by omega) hc, if_pos hj]
  unfold endC
  by_cases e : may c = true
  · have e1 : cellV rows j c + 0 < 50200 := by omega
    simp only [if_pos e, if_pos e1]
    exact ⟨by omega, rfl⟩
  · have e1 : ¬ cellV rows j c + 50200 < 50200 := by omega
    simp only [if_neg e, if_neg e1]
    exact ⟨trivial, trivial⟩

end Go.Proofs.YtpkjkegcdddimaaDoor
