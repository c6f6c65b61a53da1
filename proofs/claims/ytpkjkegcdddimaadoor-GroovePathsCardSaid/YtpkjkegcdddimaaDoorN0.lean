import Derived.Test.YtpkjkegcdddimaaDoorF0
import Derived.Test.YtpkjkegcdddimaaDoorP7
namespace Go.Proofs.YtpkjkegcdddimaaDoor
open Go.RowKit

/-- A task that has no error, as mathematics. -/
structure TkOk (rows : List (List Int)) (b : Int) (n m : Nat) : Prop where
  len : rows.length = n
  n0 : 0 < n
  n40 : n ≤ 40
  m0 : 0 < m
  m12 : m ≤ 12
  row : ∀ r ∈ rows, r.length = m ∧ ∀ x ∈ r, 0 ≤ x ∧ x ≤ 255
  bb : 0 ≤ b ∧ b ≤ 1000

theorem firstF_all {f : Nat → Int} : ∀ {n : Nat}, (∀ j, j < n → f j = 0) → firstF f n = 0
  | 0, _ => rfl
  | n + 1, h => by rw [firstF_step (firstF_all fun j hj => h j (by omega))]; exact h n (by omega)
theorem getD_mapRange (f : Nat → Int) (k c : Nat) (h : c < k) : ((List.range k).map f).getD c 0 = f c := by
  simp [List.getD_eq_getElem?_getD, h]
theorem path_near {n m : Nat} {path : List Int} (h : pathE n m path = 0) (j : Nat) (hj : j + 1 < n) : -1 ≤ path.getD (j + 1) 0 - path.getD j 0 ∧ path.getD (j + 1) 0 - path.getD j 0 ≤ 1 := by
  have hpl := path_in h
  have hpa : firstF (pAt m path) n = 0 := by unfold pathE at h; rw [if_pos hpl.1] at h; exact h
  have hx := hpl.2 (j + 1) hj
  have hst := firstF_ok hpa (j + 1) hj
  unfold pAt at hst
  rw [if_pos hx] at hst
  by_cases e : (j + 1 = 0 ∨ (-1 ≤ path.getD (j + 1) 0 - path.getD (j + 1 - 1) 0 ∧ path.getD (j + 1) 0 - path.getD (j + 1 - 1) 0 ≤ 1))
  · have e' := e.resolve_left (by omega)
    rw [Nat.add_sub_cancel] at e'
    exact e'
  · rw [if_neg e] at hst; omega
theorem path_step {n m : Nat} {path : List Int} (h : pathE n m path = 0) (j : Nat) (hj : j + 1 < n) : path.getD (j + 1) 0 ∈ nbrs (path.getD j 0).toNat m := by
  have hpl := path_in h
  have hx := hpl.2 (j + 1) hj
  have hy := hpl.2 j (by omega)
  have hst := path_near h j hj
  exact mem_nbrs hx.1 (by omega) (by omega) (by omega)
theorem path_of {n m : Nat} {path : List Int} (hl : path.length = n) (h0 : ∀ j, j < n → 0 ≤ path.getD j 0 ∧ path.getD j 0 ≤ (m : Int) - 1) (h1 : ∀ j, j + 1 < n → -1 ≤ path.getD (j + 1) 0 - path.getD j 0 ∧ path.getD (j + 1) 0 - path.getD j 0 ≤ 1) : pathE n m path = 0 := by
  unfold pathE
  rw [if_pos hl]
  refine firstF_all fun j hj => ?_
  rcases j with _ | j
  · exact pAt_first (h0 0 hj)
  · exact pAt_step (h0 _ hj) (h1 j hj)

section Rests
variable {rows : List (List Int)} {b : Int} {n m : Nat}

theorem X_ok (may : Nat → Bool) (h : TkOk rows b n m) (j : Nat) (hj : j < n) : ((restsL may b m rows).getD j []).length = m ∧ ∀ x ∈ (restsL may b m rows).getD j [], 0 ≤ x ∧ x ≤ 200000 := by
  have hl := h.len
  have h40 := h.n40
  refine ⟨restsL_rowlen may b m rows (fun r hr => (h.row r hr).1) j (by omega), fun x hx => ?_⟩
  have := restsL_bd may b m h.bb rows h.row (by omega) _ (getD_in _ j [] (by rw [restsL_length]; omega)) x hx
  omega
def endC (may : Nat → Bool) (c : Nat) : Int := if may c = true then 0 else 50200
theorem endC_yes {may : Nat → Bool} {c : Nat} (h : may c = true) : endC may c = 0 := if_pos h
theorem endC_no {may : Nat → Bool} {c : Nat} (h : ¬ may c = true) : endC may c = 50200 := if_neg h
theorem X_at (may : Nat → Bool) (h : TkOk rows b n m) (j c : Nat) (hj : j < n) (hc : c < m) : cellV (restsL may b m rows) j c = cellV rows j c + (if j + 1 = n then endC may c else (chp ((restsL may b m rows).getD (j + 1) []) b c m).2) := by
  have hr := (h.row _ (getD_in rows j [] (by rw [h.len]; exact hj))).1
  unfold cellV
  rw [restsL_row may b m rows j (by rw [h.len]; exact hj), h.len]
  by_cases e : j + 1 = n
  · rw [if_pos e, if_pos e]; exact getD_mapRange _ _ _ (by rw [hr]; exact hc)
  · rw [if_neg e, if_neg e]; exact getD_mapRange _ _ _ (by rw [hr]; exact hc)

/-- The cost of the beginning of a path and the least rest from there on. -/
def vV (may : Nat → Bool) (rows : List (List Int)) (b : Int) (m : Nat) (path : List Int) (j : Nat) : Int := cellV (restsL may b m rows) j (path.getD j 0).toNat + costF rows b path j + bendAt b path j
theorem v_zero (may : Nat → Bool) (path : List Int) : vV may rows b m path 0 = cellV (restsL may b m rows) 0 (path.getD 0 0).toNat := by
  unfold vV
  rw [bendAt_zero]
  show _ + (0 : Int) + 0 = _
  omega
theorem v_last (may : Nat → Bool) (h : TkOk rows b n m) {path : List Int} (hp : pathE n m path = 0) : vV may rows b m path (n - 1) = costF rows b path n + endC may (path.getD (n - 1) 0).toNat := by
  have h0 := h.n0
  have hx := (path_in hp).2 (n - 1) (by omega)
  unfold vV
  rw [X_at may h (n - 1) _ (by omega) (by omega), if_pos (by omega)]
  have e : costF rows b path (n - 1 + 1) = costF rows b path (n - 1) + valAt rows path (n - 1) + bendAt b path (n - 1) := rfl
  rw [show n - 1 + 1 = n by omega] at e
  have e2 : valAt rows path (n - 1) = cellV rows (n - 1) (path.getD (n - 1) 0).toNat := rfl
  omega
theorem v_step (may : Nat → Bool) (h : TkOk rows b n m) {path : List Int} (hp : pathE n m path = 0) (j : Nat) (hj : j + 1 < n) :
    vV may rows b m path j + chSum ((restsL may b m rows).getD (j + 1) []) b (path.getD j 0).toNat (path.getD (j + 1) 0) = vV may rows b m path (j + 1) + (chp ((restsL may b m rows).getD (j + 1) []) b (path.getD j 0).toNat m).2 := by
  have hx := (path_in hp).2 j (by omega)
  unfold vV chSum
  rw [X_at may h j _ (by omega) (by omega), if_neg (by omega), bendAt_succ]
  have e : costF rows b path (j + 1) = costF rows b path j + valAt rows path j + bendAt b path j := rfl
  have e2 : valAt rows path j = cellV rows j (path.getD j 0).toNat := rfl
  have e3 : cellV (restsL may b m rows) (j + 1) (path.getD (j + 1) 0).toNat = ((restsL may b m rows).getD (j + 1) []).getD (path.getD (j + 1) 0).toNat 0 := rfl
  have e4 : (if path.getD (j + 1) 0 = ((path.getD j 0).toNat : Int) then (0 : Int) else b) = if path.getD j 0 = path.getD (j + 1) 0 then 0 else b := by
    rw [show ((path.getD j 0).toNat : Int) = path.getD j 0 by omega]
    by_cases e : path.getD (j + 1) 0 = path.getD j 0
    · rw [if_pos e, if_pos e.symm]
    · rw [if_neg e, if_neg (fun e' => e e'.symm)]
  rw [e4]
  omega
theorem v_le (may : Nat → Bool) (h : TkOk rows b n m) {path : List Int} (hp : pathE n m path = 0) (j : Nat) (hj : j + 1 < n) : vV may rows b m path j ≤ vV may rows b m path (j + 1) := by
  have hx := (path_in hp).2 j (by omega)
  have h1 := v_step may h hp j hj
  have hX := X_ok may h (j + 1) hj
  have h2 := (chp_spec _ b 200000 (path.getD j 0).toNat m (by omega) hX.1 h.bb.1 (by have := h.bb; omega) hX.2).2.2.2.2 _ (path_step hp j hj)
  omega
theorem v_chain (may : Nat → Bool) (h : TkOk rows b n m) {path : List Int} (hp : pathE n m path = 0) (i : Nat) : ∀ d, i + d < n → vV may rows b m path i ≤ vV may rows b m path (i + d)
  | 0, _ => Int.le_refl _
  | d + 1, hd => Int.le_trans (v_chain may h hp i d (by omega)) (v_le may h hp (i + d) (by omega))
/-- No path that may end there costs less. -/
theorem rest_least (may : Nat → Bool) (h : TkOk rows b n m) {path : List Int} (hp : pathE n m path = 0) (hm : may (path.getD (n - 1) 0).toNat = true) : cellV (restsL may b m rows) 0 (path.getD 0 0).toNat ≤ costF rows b path n := by
  have h0 := h.n0
  have h1 := v_chain may h hp 0 (n - 1) (by omega)
  rw [Nat.zero_add, v_last may h hp, endC_yes hm, v_zero] at h1
  omega
theorem rest_tight (may : Nat → Bool) (h : TkOk rows b n m) {path : List Int} (hp : pathE n m path = 0) (hm : may (path.getD (n - 1) 0).toNat = true) (hc : costF rows b path n = cellV (restsL may b m rows) 0 (path.getD 0 0).toNat) (j : Nat) (hj : j + 1 < n) :
    chSum ((restsL may b m rows).getD (j + 1) []) b (path.getD j 0).toNat (path.getD (j + 1) 0) = (chp ((restsL may b m rows).getD (j + 1) []) b (path.getD j 0).toNat m).2 := by
  have h0 := h.n0
  have h1 := v_chain may h hp 0 j (by omega)
  have h2 := v_le may h hp j hj
  have h3 := v_chain may h hp (j + 1) (n - 1 - (j + 1)) (by omega)
  rw [show j + 1 + (n - 1 - (j + 1)) = n - 1 by omega, v_last may h hp, endC_yes hm] at h3
  rw [Nat.zero_add, v_zero] at h1
  have h4 := v_step may h hp j hj
  omega

/-- The path along the rests. -/
theorem along_ok (may : Nat → Bool) (h : TkOk rows b n m) {first : Nat} (hf : first < m) : pathE n m (pathL b m (restsL may b m rows) first n) = 0 := by
  have hX := X_ok may h
  have hs := colAt_step (first := first) hf h.bb hX
  refine path_of (pathL_length _ _ _ _ _) (fun j hj => ?_) (fun j hj => ?_)
  · rw [pathL_at _ _ _ _ _ _ hj]
    have := (hs j hj).1
    omega
  · rw [pathL_at _ _ _ _ _ _ hj, pathL_at _ _ _ _ _ _ (by omega)]
    have h1 := (hs j (by omega)).1
    have h2 := (hs j (by omega)).2 hj
    have h3 := (chp_spec _ b 200000 _ m h1 (hX _ hj).1 h.bb.1 (by have := h.bb; omega) (hX _ hj).2).1
    have h4 := nbrs_near h1 h3
    rw [h2] at h4
    omega
theorem along_step (may : Nat → Bool) (h : TkOk rows b n m) {first : Nat} (hf : first < m) (j : Nat) (hj : j + 1 < n) :
    (pathL b m (restsL may b m rows) first n).getD (j + 1) 0 = (chp ((restsL may b m rows).getD (j + 1) []) b ((pathL b m (restsL may b m rows) first n).getD j 0).toNat m).1 := by
  have hX := X_ok may h
  have hs := colAt_step (first := first) hf h.bb hX
  rw [pathL_at _ _ _ _ _ _ hj, pathL_at _ _ _ _ _ _ (by omega), Int.toNat_natCast]
  exact ((hs j (by omega)).2 hj).symm
theorem along_cost (may : Nat → Bool) (h : TkOk rows b n m) {first : Nat} (hf : first < m) :
    cellV (restsL may b m rows) 0 first = costF rows b (pathL b m (restsL may b m rows) first n) n + endC may ((pathL b m (restsL may b m rows) first n).getD (n - 1) 0).toNat := by
  have h0 := h.n0
  have hp := along_ok may h hf
  have hX := X_ok may h
  have hv : ∀ j, j < n → vV may rows b m (pathL b m (restsL may b m rows) first n) 0 = vV may rows b m (pathL b m (restsL may b m rows) first n) j := by
    intro j
    induction j with
    | zero => intro _; rfl
    | succ j ih =>
      intro hj
      rw [ih (by omega)]
      have h1 := v_step may h hp j hj
      have hx := (path_in hp).2 j (by omega)
      have h2 := (chp_spec _ b 200000 ((pathL b m (restsL may b m rows) first n).getD j 0).toNat m (by omega) (hX _ hj).1 h.bb.1 (by have := h.bb; omega) (hX _ hj).2).2.1
      rw [← along_step may h hf j hj] at h2
      omega
  have h1 := hv (n - 1) (by omega)
  rw [v_last may h hp, v_zero, pathL_at _ _ _ _ _ _ h0] at h1
  exact h1
end Rests

/-- The first of several cheapest neighbours. -/
theorem chFold_same (costs : List Int) (b : Int) (c : Nat) : ∀ (l : List Int) (s : Int × Int), (l.foldl (chStep costs b c) s).2 = s.2 → l.foldl (chStep costs b c) s = s
  | [], _, _ => rfl
  | x :: l, s, h => by
    rw [List.foldl_cons] at h ⊢
    have h1 := (chFold costs b c l (chStep costs b c s x)).1
    have e : chStep costs b c s x = if chSum costs b c x < s.2 then (x, chSum costs b c x) else s := rfl
    by_cases hx : chSum costs b c x < s.2
    · rw [e, if_pos hx] at h1 h
      dsimp only at h1
      omega
    · rw [e, if_neg hx] at h ⊢
      exact chFold_same costs b c l s h
theorem chFold_first (costs : List Int) (b : Int) (c : Nat) : ∀ (l : List Int) (s : Int × Int), l.Pairwise (· < ·) → ∀ x ∈ l, chSum costs b c x = (l.foldl (chStep costs b c) s).2 → (l.foldl (chStep costs b c) s).1 ≤ x ∨ l.foldl (chStep costs b c) s = s
  | [], _, _, x, hx, _ => by simp at hx
  | y :: l, s, hp, x, hx, h => by
    rw [List.foldl_cons] at h ⊢
    have h1 := (chFold costs b c l (chStep costs b c s y)).1
    have e : chStep costs b c s y = if chSum costs b c y < s.2 then (y, chSum costs b c y) else s := rfl
    rw [List.pairwise_cons] at hp
    have ih := chFold_first costs b c l (chStep costs b c s y) hp.2 x
    rcases List.mem_cons.1 hx with rfl | hx
    · by_cases hy : chSum costs b c x < s.2
      · rw [e, if_pos hy] at h h1 ⊢
        have h2 := chFold_same costs b c l (x, chSum costs b c x) (by rw [← h])
        rw [h2]
        exact .inl (Int.le_refl _)
      · rw [e, if_neg hy] at h h1 ⊢
        exact .inr (chFold_same costs b c l s (by omega))
    · rcases ih hx h with h2 | h2
      · exact .inl h2
      · by_cases hy : chSum costs b c y < s.2
        · rw [e, if_pos hy] at h2 ⊢
          rw [h2]
          exact .inl (Int.le_of_lt (hp.1 x hx))
        · rw [e, if_neg hy] at h2 ⊢
          exact .inr h2
theorem nbrs_asc (c cols : Nat) : (nbrs c cols).Pairwise (· < ·) := by
  unfold nbrs
  rw [List.pairwise_map]
  exact List.pairwise_lt_range.imp (fun h => by omega)
theorem chp_first {costs : List Int} {b M : Int} {c cols : Nat} (hc : c < cols) (hl : costs.length = cols) (hb : 0 ≤ b) (hM : M + b < 9223372036854775807) (hcs : ∀ x ∈ costs, 0 ≤ x ∧ x ≤ M) {x : Int} (hx : x ∈ nbrs c cols) (h : chSum costs b c x = (chp costs b c cols).2) : (chp costs b c cols).1 ≤ x := by
  have h1 := chp_spec costs b M c cols hc hl hb hM hcs
  rcases chFold_first costs b c (nbrs c cols) (0, 9223372036854775807) (nbrs_asc c cols) x hx h with h2 | h2
  · exact h2
  · have h3 : (chp costs b c cols).2 = 9223372036854775807 := congrArg Prod.snd h2
    omega

/-- A list is before another one. -/
def beforeL : List Int → List Int → Bool
  | [], [] => false
  | [], _ :: _ => true
  | _ :: _, [] => false
  | x :: a, y :: b => if x = y then beforeL a b else decide (x < y)
theorem before_split : ∀ {a b : List Int}, a.length = b.length → beforeL a b = true → ∃ j, j < a.length ∧ (∀ i, i < j → a.getD i 0 = b.getD i 0) ∧ a.getD j 0 < b.getD j 0
  | [], [], _, h => by simp [beforeL] at h
  | [], _ :: _, hl, _ => by simp at hl
  | _ :: _, [], hl, _ => by simp at hl
  | x :: a, y :: b, hl, h => by
    unfold beforeL at h
    by_cases e : x = y
    · rw [if_pos e] at h
      obtain ⟨j, h1, h2, h3⟩ := before_split (by simpa using hl) h
      refine ⟨j + 1, by simp; omega, fun i hi => ?_, by simpa using h3⟩
      rcases i with _ | i
      · simpa using e
      · simpa using h2 i (by omega)
    · rw [if_neg e] at h
      exact ⟨0, by simp, fun i hi => by omega, by simpa using h⟩
theorem before_tri : ∀ {a b : List Int}, a.length = b.length → beforeL a b = false → beforeL b a = false → a = b
  | [], [], _, _, _ => rfl
  | [], _ :: _, hl, _, _ => by simp at hl
  | _ :: _, [], hl, _, _ => by simp at hl
  | x :: a, y :: b, hl, h, h' => by
    unfold beforeL at h h'
    by_cases e : x = y
    · rw [if_pos e] at h
      rw [if_pos e.symm] at h'
      rw [e, before_tri (by simpa using hl) h h']
    · rw [if_neg e] at h
      rw [if_neg (fun e' => e e'.symm)] at h'
      simp only [decide_eq_false_iff_not] at h h'
      omega
theorem before_head {a b : List Int} (hl : a.length = b.length) (h0 : 0 < a.length) (h : a.getD 0 0 < b.getD 0 0) : beforeL a b = true := by
  rcases a with _ | ⟨x, a⟩
  · simp at h0
  · rcases b with _ | ⟨y, b⟩
    · simp at hl
    · simp at h
      unfold beforeL
      rw [if_neg (by omega), decide_eq_true h]

end Go.Proofs.YtpkjkegcdddimaaDoor
