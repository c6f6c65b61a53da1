import Derived.Test.YtjjflbnopphciaaGreatDoorXH
import Derived.Test.YtjjflbnopphciaaGreatDoorP7
import Derived.Test.YtjjflbnopphciaaGreatDoorR3
import Derived.Test.YtjjflbnopphciaaGreatDoorXF
import Derived.Test.YtjjflbnopphciaaGreatDoorR6
namespace Go.Proofs.YtjjflbnopphciaaGreatDoor
open Go.RowKit

/-- A task that has no error, as mathematics. -/
structure TkOk (rows : List (List Int)) (b : Int) (n m : Nat) : Prop where
  len : rows.length = n
  n0 : 0 < n
  n40 : n ≤ 40
  m0 : 0 < m
  m12 : m ≤ 12
  row : ∀ r ∈ rows, r.length = m ∧ ∀ x ∈ r, 0 ≤ x ∧ x ≤ 255
  bb : 0 ≤ b ∧ b ≤ 1000

theorem firstF_all {f : Nat → Int} : ∀ {n : Nat}, (∀ j, j < n → f j = 0) → firstF f n = 0
  | 0, _ => rfl
  | n + 1, h => by rw [firstF_step (firstF_all fun j hj => h j (by omega))]; exact h n (by omega)
theorem getD_mapRange (f : Nat → Int) (k c : Nat) (h : c < k) : ((List.range k).map f).getD c 0 = f c := by
  simp [List.getD_eq_getElem?_getD, h]
theorem path_near {n m : Nat} {path : List Int} (h : pathE n m path = 0) (j : Nat) (hj : j + 1 < n) : -1 ≤ path.getD (j + 1) 0 - path.getD j 0 ∧ path.getD (j + 1) 0 - path.getD j 0 ≤ 1 := by
  have hpl := path_in h
  have hpa : firstF (pAt m path) n = 0 := by unfold pathE at h; rw [if_pos hpl.1] at h; exact h
  have hx := hpl.2 (j + 1) hj
  have hst := firstF_ok hpa (j + 1) hj
  unfold pAt at hst
  rw [if_pos hx] at hst
  by_cases e : (j + 1 = 0 ∨ (-1 ≤ path.getD (j + 1) 0 - path.getD (j + 1 - 1) 0 ∧ path.getD (j + 1) 0 - path.getD (j + 1 - 1) 0 ≤ 1))
  · have e' := e.resolve_left (by omega)
    rw [Nat.add_sub_cancel] at e'
    exact e'
  · rw [if_neg e] at hst; omega
theorem path_step {n m : Nat} {path : List Int} (h : pathE n m path = 0) (j : Nat) (hj : j + 1 < n) : path.getD (j + 1) 0 ∈ nbrs (path.getD j 0).toNat m := by
  have hpl := path_in h
  have hx := hpl.2 (j + 1) hj
  have hy := hpl.2 j (by omega)
  have hst := path_near h j hj
  exact mem_nbrs hx.1 (by omega) (by omega) (by omega)
theorem path_of {n m : Nat} {path : List Int} (hl : path.length = n) (h0 : ∀ j, j < n → 0 ≤ path.getD j 0 ∧ path.getD j 0 ≤ (m : Int) - 1) (h1 : ∀ j, j + 1 < n → -1 ≤ path.getD (j + 1) 0 - path.getD j 0 ∧ path.getD (j + 1) 0 - path.getD j 0 ≤ 1) : pathE n m path = 0 := by
  unfold pathE
  rw [if_pos hl]
  refine firstF_all fun j hj => ?_
  rcases j with _ | j
  · exact pAt_first (h0 0 hj)
  · exact pAt_step (h0 _ hj) (h1 j hj)

section Rests
variable {rows : List (List Int)} {b : Int} {n m : Nat}

theorem X_ok (may : Nat → Bool) (h : TkOk rows b n m) (j : Nat) (hj : j < n) : ((restsL may b m rows).getD j []).length = m ∧ ∀ x ∈ (restsL may b m rows).getD j [], 0 ≤ x ∧ x ≤ 200000 := by
  have hl := h.len
  have h40 := h.n40
  refine ⟨restsL_rowlen may b m rows (fun r hr => (h.row r hr).1) j (by omega), fun x hx => ?_⟩
  have := restsL_bd may b m h.bb rows h.row (by omega) _ (getD_in _ j [] (by rw [restsL_length]; omega)) x hx
  omega
def endC (may : Nat → Bool) (c : Nat) : Int := if may c = true then 0 else 50200
theorem endC_yes {may : Nat → Bool} {c : Nat} (h : may c = true) : endC may c = 0 := if_pos h
theorem endC_no {may : Nat → Bool} {c : Nat} (h : ¬ may c = true) : endC may c = 50200 := if_neg h
theorem X_at (may : Nat → Bool) (h : TkOk rows b n m) (j c : Nat) (hj : j < n) (hc : c < m) : cellV (restsL may b m rows) j c = cellV rows j c + (if j + 1 = n then endC may c else (chp ((restsL may b m rows).getD (j + 1) []) b c m).2) := by
  have hr := (h.row _ (getD_in rows j [] (by rw [h.len]; exact hj))).1
  unfold cellV
  rw [restsL_row may b m rows j (by rw [h.len]; exact hj), h.len]
  by_cases e : j + 1 = n
  · rw [if_pos e, if_pos e]; exact getD_mapRange _ _ _ (by rw [hr]; exact hc)
  · rw [if_neg e, if_neg e]; exact getD_mapRange _ _ _ (by rw [hr]; exact hc)

/-- The cost of the beginning of a path and the least rest from there on. -/
def vV (may : Nat → Bool) (rows : List (List Int)) (b : Int) (m : Nat) (path : List Int) (j : Nat) : Int := cellV (restsL may b m rows) j (path.getD j 0).toNat + costF rows b path j + bendAt b path j
theorem v_zero (may : Nat → Bool) (path : List Int) : vV may rows b m path 0 = cellV (restsL may b m rows) 0 (path.getD 0 0).toNat := by
  unfold vV
  rw [bendAt_zero]
  show _ + (0 : Int) + 0 = _
  omega
theorem v_last (may : Nat → Bool) (h : TkOk rows b n m) {path : List Int} (hp : pathE n m path = 0) : vV may rows b m path (n - 1) = costF rows b path n + endC may (path.getD (n - 1) 0).toNat := by
  have h0 := h.n0
  have hx := (path_in hp).2 (n - 1) (by omega)
  unfold vV
  rw [X_at may h (n - 1) _ (by omega) (by omega), if_pos (by omega)]
  have e : costF rows b path (n - 1 + 1) = costF rows b path (n - 1) + valAt rows path (n - 1) + bendAt b path (n - 1) := rfl
  rw [show n - 1 + 1 = n by omega] at e
  have e2 : valAt rows path (n - 1) = cellV rows (n - 1) (path.getD (n - 1) 0).toNat := rfl
  omega
theorem v_step (may : Nat → Bool) (h : TkOk rows b n m) {path : List Int} (hp : pathE n m path = 0) (j : Nat) (hj : j + 1 < n) :
    vV may rows b m path j + chSum ((restsL may b m rows).getD (j + 1) []) b (path.getD j 0).toNat (path.getD (j + 1) 0) = vV may rows b m path (j + 1) + (chp ((restsL may b m rows).getD (j + 1) []) b (path.getD j 0).toNat m).2 := by
  have hx := (path_in hp).2 j (by omega)
  unfold vV chSum
  rw [X_at may h j _ (by omega) (by omega), if_neg (by omega), bendAt_succ]
  have e : costF rows b path (j + 1) = costF rows b path j + valAt rows path j + bendAt b path j := rfl
  have e2 : valAt rows path j = cellV rows j (path.getD j 0).toNat := rfl
  have e3 : cellV (restsL may b m rows) (j + 1) (path.getD (j + 1) 0).toNat = ((restsL may b m rows).getD (j + 1) []).getD (path.getD (j + 1) 0).toNat 0 := rfl
  have e4 : (if path.getD (j + 1) 0 = ((path.getD j 0).toNat : Int) then (0 : Int) else b) = if path.getD j 0 = path.getD (j + 1) 0 then 0 else b := by
    rw [show ((path.getD j 0).toNat : Int) = path.getD j 0 by omega]
    by_cases e : path.getD (j + 1) 0 = path.getD j 0
    · rw [if_pos e, if_pos e.symm]
    · rw [if_neg e, if_neg (fun e' => e e'.symm)]
  rw [e4]
  omega
theorem v_le (may : Nat → Bool) (h : TkOk rows b n m) {path : List Int} (hp : pathE n m path = 0) (j : Nat) (hj : j + 1 < n) : vV may rows b m path j ≤ vV may rows b m path (j + 1) := by
  have hx := (path_in hp).2 j (by omega)
  have h1 := v_step may h hp j hj
  have hX := X_ok may h (j + 1) hj
  have h2 := (chp_spec _ b 200000 (path.getD j 0).toNat m (by omega) hX.1 h.bb.1 (by have := h.bb; omega) hX.2).2.2.2.2 _ (path_step hp j hj)
  omega
theorem v_chain (may : Nat → Bool) (h : TkOk rows b n m) {path : List Int} (hp : pathE n m path = 0) (i : Nat) : ∀ d, i + d < n → vV may rows b m path i ≤ vV may rows b m path (i + d)
  | 0, _ => Int.le_refl _
  | d + 1, hd => Int.le_trans (v_chain may h hp i d (by omega)) (v_le may h hp (i + d) (by omega))
/-- No path that may end there costs less. -/
theorem rest_least (may : Nat → Bool) (h : TkOk rows b n m) {path : List Int} (hp : pathE n m path = 0) (hm : may (path.getD (n - 1) 0).toNat = true) : cellV (restsL may b m rows) 0 (path.getD 0 0).toNat ≤ costF rows b path n := by
  have h0 := h.n0
  have h1 := v_chain may h hp 0 (n - 1) (by omega)
  rw [Nat.zero_add, v_last may h hp, endC_yes hm, v_zero] at h1
  omega
theorem rest_tight (may : Nat → Bool) (h : TkOk rows b n m) {path : List Int} (hp : pathE n m path = 0) (hm : may (path.getD (n - 1) 0).toNat = true) (hc : costF rows b path n = cellV (restsL may b m rows) 0 (path.getD 0 0).toNat) (j : Nat) (hj : j + 1 < n) :
    chSum ((restsL may b m rows).getD (j + 1) []) b (path.getD j 0).toNat (path.getD (j + 1) 0) = (chp ((restsL may b m rows).getD (j + 1) []) b (path.getD j 0).toNat m).2 := by
  have h0 := h.n0
  have h1 := v_chain may h hp 0 j (by omega)
  have h2 := v_le may h hp j hj
  have h3 := v_chain may h hp (j + 1) (n - 1 - (j + 1)) (by omega)
  rw [show j + 1 + (n - 1 - (j + 1)) = n - 1 by omega, v_last may h hp, endC_yes hm] at h3
  rw [Nat.zero_add, v_zero] at h1
  have h4 := v_step may h hp j hj
  omega

/-- The path along the rests. -/
theorem along_ok (may : Nat → Bool) (h : TkOk rows b n m) {first : Nat} (hf : first < m) : pathE n m (pathL b m (restsL may b m rows) first n) = 0 := by
  have hX := X_ok may h
  have hs := colAt_step (first := first) hf h.bb hX
  refine path_of (pathL_length _ _ _ _ _) (fun j hj => ?_) (fun j hj => ?_)
  · rw [pathL_at _ _ _ _ _ _ hj]
    have := (hs j hj).1
    omega
  · rw [pathL_at _ _ _ _ _ _ hj, pathL_at _ _ _ _ _ _ (by omega)]
    have h1 := (hs j (by omega)).1
    have h2 := (hs j (by omega)).2 hj
    have h3 := (chp_spec _ b 200000 _ m h1 (hX _ hj).1 h.bb.1 (by have := h.bb; omega) (hX _ hj).2).1
    have h4 := nbrs_near h1 h3
    rw [h2] at h4
    omega
theorem along_step (may : Nat → Bool) (h : TkOk rows b n m) {first : Nat} (hf : first < m) (j : Nat) (hj : j + 1 < n) :
    (pathL b m (restsL may b m rows) first n).getD (j + 1) 0 = (chp ((restsL may b m rows).getD (j + 1) []) b ((pathL b m (restsL may b m rows) first n).getD j 0).toNat m).1 := by
  have hX := X_ok may h
  have hs := colAt_step (first := first) hf h.bb hX
  rw [pathL_at _ _ _ _ _ _ hj, pathL_at _ _ _ _ _ _ (by omega), Int.toNat_natCast]
  exact ((hs j (by omega)).2 hj).symm
theorem along_cost (may : Nat → Bool) (h : TkOk rows b n m) {first : Nat} (hf : first < m) :
    cellV (restsL may b m rows) 0 first = costF rows b (pathL b m (restsL may b m rows) first n) n + endC may ((pathL b m (restsL may b m rows) first n).getD (n - 1) 0).toNat := by
  have h0 := h.n0
  have hp := along_ok may h hf
  have hX := X_ok may h
  have hv : ∀ j, j < n → vV may rows b m (pathL b m (restsL may b m rows) first n) 0 = vV may rows b m (pathL b m (restsL may b m rows) first n) j := by
    intro j
    induction j with
    | zero => intro _; rfl
    | succ j ih =>
      intro hj
      rw [ih (by omega)]
      have h1 := v_step may h hp j hj
      have hx := (path_in hp).2 j (by omega)
      have h2 := (chp_spec _ b 200000 ((pathL b m (restsL may b m rows) first n).getD j 0).toNat m (by omega) (hX _ hj).1 h.bb.1 (by have := h.bb; omega) (hX _ hj).2).2.1
      rw [← along_step may h hf j hj] at h2
      omega
  have h1 := hv (n - 1) (by omega)
  rw [v_last may h hp, v_zero, pathL_at _ _ _ _ _ _ h0] at h1
  exact h1
end Rests

/-- The first of several cheapest neighbours. -/
theorem chFold_same (costs : List Int) (b : Int) (c : Nat) : ∀ (l : List Int) (s : Int × Int), (l.foldl (chStep costs b c) s).2 = s.2 → l.foldl (chStep costs b c) s = s
  | [], _, _ => rfl
  | x :: l, s, h => by
    rw [List.foldl_cons] at h ⊢
    have h1 := (chFold costs b c l (chStep costs b c s x)).1
    have e : chStep costs b c s x = if chSum costs b c x < s.2 then (x, chSum costs b c x) else s := rfl
    by_cases hx : chSum costs b c x < s.2
    · rw [e, if_pos hx] at h1 h
      dsimp only at h1
      omega
    · rw [e, if_neg hx] at h ⊢
      exact chFold_same costs b c l s h
theorem chFold_first (costs : List Int) (b : Int) (c : Nat) : ∀ (l : List Int) (s : Int × Int), l.Pairwise (· < ·) → ∀ x ∈ l, chSum costs b c x = (l.foldl (chStep costs b c) s).2 → (l.foldl (chStep costs b c) s).1 ≤ x ∨ l.foldl (chStep costs b c) s = s
  | [], _, _, x, hx, _ => by simp at hx
  | y :: l, s, hp, x, hx, h => by
    rw [List.foldl_cons] at h ⊢
    have h1 := (chFold costs b c l (chStep costs b c s y)).1
    have e : chStep costs b c s y = if chSum costs b c y < s.2 then (y, chSum costs b c y) else s := rfl
    rw [List.pairwise_cons] at hp
    have ih := chFold_first costs b c l (chStep costs b c s y) hp.2 x
    rcases List.mem_cons.1 hx with rfl | hx
    · by_cases hy : chSum costs b c x < s.2
      · rw [e, if_pos hy] at h h1 ⊢
        have h2 := chFold_same costs b c l (x, chSum costs b c x) (by rw [← h])
        rw [h2]
        exact .inl (Int.le_refl _)
      · rw [e, if_neg hy] at h h1 ⊢
        exact .inr (chFold_same costs b c l s (by omega))
    · rcases ih hx h with h2 | h2
      · exact .inl h2
      · by_cases hy : chSum costs b c y < s.2
        · rw [e, if_pos hy] at h2 ⊢
          rw [h2]
          exact .inl (Int.le_of_lt (hp.1 x hx))
        · rw [e, if_neg hy] at h2 ⊢
          exact .inr h2
theorem nbrs_asc (c cols : Nat) : (nbrs c cols).Pairwise (· < ·) := by
  unfold nbrs
  rw [List.pairwise_map]
  exact List.pairwise_lt_range.imp (fun h => by omega)
theorem chp_first {costs : List Int} {b M : Int} {c cols : Nat} (hc : c < cols) (hl : costs.length = cols) (hb : 0 ≤ b) (hM : M + b < 9223372036854775807) (hcs : ∀ x ∈ costs, 0 ≤ x ∧ x ≤ M) {x : Int} (hx : x ∈ nbrs c cols) (h : chSum costs b c x = (chp costs b c cols).2) : (chp costs b c cols).1 ≤ x := by
  have h1 := chp_spec costs b M c cols hc hl hb hM hcs
  rcases chFold_first costs b c (nbrs c cols) (0, 9223372036854775807) (nbrs_asc c cols) x hx h with h2 | h2
  · exact h2
  · have h3 : (chp costs b c cols).2 = 9223372036854775807 := congrArg Prod.snd h2
    omega

/-- A list is before another one. -/
def beforeL : List Int → List Int → Bool
  | [], [] => false
  | [], _ :: _ => true
  | _ :: _, [] => false
  | x :: a, y :: b => if x = y then beforeL a b else decide (x < y)
theorem before_split : ∀ {a b : List Int}, a.length = b.length → beforeL a b = true → ∃ j, j < a.length ∧ (∀ i, i < j → a.getD i 0 = b.getD i 0) ∧ a.getD j 0 < b.getD j 0
  | [], [], _, h => by simp [beforeL] at h
  | [], _ :: _, hl, _ => by simp at hl
  | _ :: _, [], hl, _ => by simp at hl
  | x :: a, y :: b, hl, h => by
    unfold beforeL at h
    by_cases e : x = y
    · rw [if_pos e] at h
      obtain ⟨j, h1, h2, h3⟩ := before_split (by simpa using hl) h
      refine ⟨j + 1, by simp; omega, fun i hi => ?_, by simpa using h3⟩
      rcases i with _ | i
      · simpa using e
      · simpa using h2 i (by omega)
    · rw [if_neg e] at h
      exact ⟨0, by simp, fun i hi => by omega, by simpa using h⟩
theorem before_tri : ∀ {a b : List Int}, a.length = b.length → beforeL a b = false → beforeL b a = false → a = b
  | [], [], _, _, _ => rfl
  | [], _ :: _, hl, _, _ => by simp at hl
  | _ :: _, [], hl, _, _ => by simp at hl
  | x :: a, y :: b, hl, h, h' => by
    unfold beforeL at h h'
    by_cases e : x = y
    · rw [if_pos e] at h
      rw [if_pos e.symm] at h'
      rw [e, before_tri (by simpa using hl) h h']
    · rw [if_neg e] at h
      rw [if_neg (fun e' => e e'.symm)] at h'
      simp only [decide_eq_false_iff_not] at h h'
      omega
theorem before_head {a b : List Int} (hl : a.length = b.length) (h0 : 0 < a.length) (h : a.getD 0 0 < b.getD 0 0) : beforeL a b = true := by
  rcases a with _ | ⟨x, a⟩
  · simp at h0
  · rcases b with _ | ⟨y, b⟩
    · simp at hl
    · simp at h
      unfold beforeL
      rw [if_neg (by omega), decide_eq_true h]

end Go.Proofs.YtjjflbnopphciaaGreatDoor

namespace Go.Proofs.YtjjflbnopphciaaGreatDoor
open Go.RowKit

section Best
variable {rows : List (List Int)} {b : Int} {n m : Nat}

theorem nth_nonneg {q : List Int} (hq : pathE n m q = 0) (j : Nat) (hj : j < n) : ((q.getD j 0).toNat : Int) = q.getD j 0 ∧ (q.getD j 0).toNat < m := by
  have := (path_in hq).2 j hj
  omega
/-- No path of the same cost from the same column is before the path along the rests. -/
theorem along_first (may : Nat → Bool) (h : TkOk rows b n m) {first : Nat} (hf : first < m) {q : List Int} (hq : pathE n m q = 0) (hm : may (q.getD (n - 1) 0).toNat = true) (h0 : q.getD 0 0 = (first : Int))
    (hc : costF rows b q n = cellV (restsL may b m rows) 0 first) : beforeL q (pathL b m (restsL may b m rows) first n) = false := by
  have hX := X_ok may h
  have hp := along_ok may h hf
  have hql := (path_in hq).1
  rcases hB : beforeL q (pathL b m (restsL may b m rows) first n) with _ | _
  · rfl
  · exfalso
    obtain ⟨j, h1, h2, h3⟩ := before_split (by rw [hql, pathL_length]) hB
    rw [hql] at h1
    rcases j with _ | j
    · rw [pathL_at _ _ _ _ _ _ h1, h0] at h3
      exact absurd h3 (Int.lt_irrefl _)
    · have e := h2 j (by omega)
      have h4 := rest_tight may h hq hm (by rw [hc, h0, Int.toNat_natCast]) j h1
      have hx := nth_nonneg hq j (by omega)
      have h5 := chp_first (M := 200000) hx.2 (hX _ h1).1 h.bb.1 (by have := h.bb; omega) (hX _ h1).2 (path_step hq j h1) h4
      rw [along_step may h hf j h1, ← e] at h3
      omega

/-- The search for the first column. -/
theorem bestTo_spec (mf : Nat → Nat → Bool) (hn : rows.length = n) : ∀ k, (bestTo mf b m rows k = ([], 50200) ∧ ∀ i, i < k → 50200 ≤ cellV (restsL (mf i) b m rows) 0 i) ∨
    ∃ i, i < k ∧ bestTo mf b m rows k = (pathL b m (restsL (mf i) b m rows) i n, cellV (restsL (mf i) b m rows) 0 i) ∧ cellV (restsL (mf i) b m rows) 0 i < 50200 ∧ (∀ j, j < k → cellV (restsL (mf i) b m rows) 0 i ≤ cellV (restsL (mf j) b m rows) 0 j) ∧ ∀ j, j < i → cellV (restsL (mf i) b m rows) 0 i < cellV (restsL (mf j) b m rows) 0 j
  | 0 => .inl ⟨rfl, fun i hi => by omega⟩
  | k + 1 => by
    have e : bestTo mf b m rows (k + 1) = if cellV (restsL (mf k) b m rows) 0 k < (bestTo mf b m rows k).2 then (pathL b m (restsL (mf k) b m rows) k n, cellV (restsL (mf k) b m rows) 0 k) else bestTo mf b m rows k := by rw [← hn]; rfl
    rw [e]
    rcases bestTo_spec mf hn k with ⟨h1, h2⟩ | ⟨i, h1, h2, h3, h4, h5⟩
    · rw [h1]
      by_cases hk : cellV (restsL (mf k) b m rows) 0 k < 50200
      · rw [if_pos hk]
        refine .inr ⟨k, by omega, rfl, hk, fun j hj => ?_, fun j hj => ?_⟩
        · by_cases ej : j = k
          · subst ej; exact Int.le_refl _
          · have := h2 j (by omega); omega
        · have := h2 j hj; omega
      · rw [if_neg hk]
        refine .inl ⟨rfl, fun j hj => ?_⟩
        by_cases ej : j = k
        · subst ej; omega
        · exact h2 j (by omega)
    · rw [h2]
      by_cases hk : cellV (restsL (mf k) b m rows) 0 k < cellV (restsL (mf i) b m rows) 0 i
      · rw [if_pos hk]
        refine .inr ⟨k, by omega, rfl, by omega, fun j hj => ?_, fun j hj => ?_⟩
        · by_cases ej : j = k
          · subst ej; exact Int.le_refl _
          · have := h4 j (by omega); omega
        · have := h4 j hj; omega
      · rw [if_neg hk]
        refine .inr ⟨i, by omega, rfl, h3, fun j hj => ?_, h5⟩
        by_cases ej : j = k
        · subst ej; omega
        · exact h4 j (by omega)

theorem val_bd (h : TkOk rows b n m) {q : List Int} (hq : pathE n m q = 0) (j : Nat) (hj : j < n) : 0 ≤ valAt rows q j ∧ valAt rows q j ≤ 255 := by
  have hx := nth_nonneg hq j hj
  have hr := h.row _ (getD_in rows j [] (by rw [h.len]; exact hj))
  exact hr.2 _ (getD_in _ _ 0 (by rw [hr.1]; exact hx.2))
theorem cost_nonneg (h : TkOk rows b n m) {q : List Int} (hq : pathE n m q = 0) : 0 ≤ costF rows b q n := (costF_bd h.bb (fun j hj => val_bd h hq j hj)).1

/-- The straight path in column 0. -/
theorem straight_at (k j : Nat) : (List.replicate k (0 : Int)).getD j 0 = 0 := by
  simp only [List.getD_eq_getElem?_getD, List.getElem?_replicate]
  split <;> rfl
theorem straight_ok (h : TkOk rows b n m) : pathE n m (List.replicate n 0) = 0 := by
  have := h.m0
  refine path_of (by simp) (fun j hj => ?_) (fun j hj => ?_)
  · rw [straight_at]; omega
  · rw [straight_at, straight_at]; omega
theorem straight_cost (h : TkOk rows b n m) : ∀ k, k ≤ n → costF rows b (List.replicate n 0) k ≤ 255 * (k : Int)
  | 0, _ => by simp [costF]
  | k + 1, hk => by
    have ih := straight_cost h k (by omega)
    have h1 := val_bd h (straight_ok h) k (by omega)
    have e : costF rows b (List.replicate n 0) (k + 1) = costF rows b (List.replicate n 0) k + valAt rows (List.replicate n 0) k + bendAt b (List.replicate n 0) k := rfl
    have e2 : bendAt b (List.replicate n 0) k = 0 := by
      unfold bendAt
      rw [straight_at, straight_at, if_pos rfl]
      split <;> rfl
    rw [e, e2]
    omega

/-- The best path: valid, at its cost; none costs less, none that costs as much is before it. -/
theorem best_spec (h : TkOk rows b n m) {l : List Int} {c : Int} (hb : bestTo (fun _ _ => true) b m rows m = (l, c)) :
    pathE n m l = 0 ∧ costF rows b l n = c ∧ 0 ≤ c ∧ c < 50200 ∧ (∀ q, pathE n m q = 0 → c ≤ costF rows b q n) ∧ ∀ q, pathE n m q = 0 → costF rows b q n = c → beforeL q l = false := by
  have hm0 := h.m0
  have hn0 := h.n0
  have hn40 := h.n40
  have hlow : ∀ q, pathE n m q = 0 → cellV (restsL (fun _ => true) b m rows) 0 (q.getD 0 0).toNat ≤ costF rows b q n := fun q hq => rest_least (fun _ => true) h hq rfl
  rcases bestTo_spec (b := b) (m := m) (fun _ _ => true) h.len m with ⟨h1, h2⟩ | ⟨i, h1, h2, h3, h4, h5⟩
  · exfalso
    have h6 := hlow _ (straight_ok h)
    have h7 := straight_cost h n (Nat.le_refl _)
    rw [straight_at] at h6
    have h8 := h2 0 hm0
    have h9 : cellV (restsL (fun _ => true) b m rows) 0 0 ≤ costF rows b (List.replicate n 0) n := h6
    have h10 : (50200 : Int) ≤ cellV (restsL (fun _ => true) b m rows) 0 0 := h8
    omega
  · rw [hb] at h2
    obtain ⟨rfl, rfl⟩ := Prod.mk.inj h2
    have hp := along_ok (fun _ => true) h h1
    have hcost := along_cost (fun _ => true) h h1
    rw [endC_yes rfl, Int.add_zero] at hcost
    have hmin : ∀ q, pathE n m q = 0 → cellV (restsL (fun _ => true) b m rows) 0 i ≤ costF rows b q n := fun q hq => Int.le_trans (h4 _ (nth_nonneg hq 0 hn0).2) (hlow q hq)
    refine ⟨hp, hcost.symm, ?_, h3, hmin, fun q hq hc => ?_⟩
    · show 0 ≤ cellV (restsL (fun _ => true) b m rows) 0 i
      rw [hcost]; exact cost_nonneg h hp
    · change costF rows b q n = cellV (restsL (fun _ => true) b m rows) 0 i at hc
      have hx := nth_nonneg hq 0 hn0
      have h6 := hlow q hq
      by_cases e : (q.getD 0 0).toNat = i
      · exact along_first (fun _ => true) h h1 hq rfl (by omega) hc
      · by_cases e2 : (q.getD 0 0).toNat < i
        · have h7 := h5 _ e2
          have h8 : cellV (restsL (fun _ => true) b m rows) 0 i < cellV (restsL (fun _ => true) b m rows) 0 (q.getD 0 0).toNat := h7
          omega
        · rcases hB : beforeL q (pathL b m (restsL (fun _ => true) b m rows) i n) with _ | _
          · rfl
          · exfalso
            obtain ⟨j, g1, g2, g3⟩ := before_split (by rw [(path_in hq).1, pathL_length]) hB
            have hat := pathL_at b m (restsL (fun _ => true) b m rows) i n 0 hn0
            rcases j with _ | j
            · rw [hat] at g3
              have : (colAt b m (restsL (fun _ => true) b m rows) i 0 : Int) = i := rfl
              omega
            · have g4 := g2 0 (by omega)
              rw [hat] at g4
              have : (colAt b m (restsL (fun _ => true) b m rows) i 0 : Int) = i := rfl
              omega

/-- What a turn's search gives: nothing, or a valid path at its cost. -/
theorem turn_spec (mf : Nat → Nat → Bool) (h : TkOk rows b n m) : bestTo mf b m rows m = ([], 50200) ∨ pathE n m (bestTo mf b m rows m).1 = 0 ∧ costF rows b (bestTo mf b m rows m).1 n = (bestTo mf b m rows m).2 := by
  rcases bestTo_spec (b := b) (m := m) mf h.len m with ⟨h1, _⟩ | ⟨i, h1, h2, h3, h4, h5⟩
  · exact .inl h1
  · refine .inr ?_
    rw [h2]
    have hp := along_ok (mf i) h h1
    have hcost := along_cost (mf i) h h1
    have h6 := cost_nonneg h hp
    by_cases hm : mf i ((pathL b m (restsL (mf i) b m rows) i n).getD (n - 1) 0).toNat = true
    · rw [endC_yes hm, Int.add_zero] at hcost
      exact ⟨hp, hcost.symm⟩
    · rw [endC_no hm] at hcost
      omega
theorem turn_least (mf : Nat → Nat → Bool) (h : TkOk rows b n m) {l : List Int} {c : Int} (hb : bestTo (fun _ _ => true) b m rows m = (l, c)) : c ≤ (bestTo mf b m rows m).2 := by
  obtain ⟨_, _, _, h4, h5, _⟩ := best_spec h hb
  rcases turn_spec mf h with h1 | ⟨h1, h2⟩
  · rw [h1]; exact Int.le_of_lt h4
  · have := h5 _ h1; omega
/-- The best path is the best turn with its own pitch. -/
theorem turn_own (mf : Nat → Nat → Bool) (h : TkOk rows b n m) {l : List Int} {c : Int} (hb : bestTo (fun _ _ => true) b m rows m = (l, c)) (hm : mf (l.getD 0 0).toNat (l.getD (n - 1) 0).toNat = true) : bestTo mf b m rows m = (l, c) := by
  obtain ⟨h1, h2, h3, h4, h5, h6⟩ := best_spec h hb
  have hm0 := h.m0
  have hn0 := h.n0
  have hx := nth_nonneg h1 0 hn0
  have hl := rest_least (mf (l.getD 0 0).toNat) h h1 hm
  rcases bestTo_spec (b := b) (m := m) mf h.len m with ⟨g1, g2⟩ | ⟨i, g1, g2, g3, g4, g5⟩
  · have := g2 _ hx.2; omega
  · have ht := turn_spec mf h
    rw [g2] at ht ⊢
    rcases ht with ht | ⟨t1, t2⟩
    · have := congrArg Prod.snd ht
      dsimp only at this
      omega
    · dsimp only at t1 t2
      have t3 := h5 _ t1
      have t4 := g4 _ hx.2
      have t5 : cellV (restsL (mf i) b m rows) 0 i = c := by omega
      have hat := pathL_at b m (restsL (mf i) b m rows) i n 0 hn0
      have hat2 : (colAt b m (restsL (mf i) b m rows) i 0 : Int) = i := rfl
      have hlen : (pathL b m (restsL (mf i) b m rows) i n).length = l.length := by rw [pathL_length, (path_in h1).1]
      have t6 := h6 _ t1 (by omega)
      by_cases e : (l.getD 0 0).toNat = i
      · have t7 := along_first (mf i) h g1 h1 (by rw [← e]; exact hm) (by omega) (by omega)
        rw [before_tri hlen t6 t7, t5]
      · by_cases e2 : (l.getD 0 0).toNat < i
        · have := g5 _ e2; omega
        · exfalso
          have := before_head hlen (by rw [pathL_length]; exact hn0) (by rw [hat]; omega)
          rw [this] at t6
          exact absurd t6 (by decide)
end Best

end Go.Proofs.YtjjflbnopphciaaGreatDoor

namespace Go.Proofs.YtjjflbnopphciaaGreatDoor
open Go.RowKit

/-- The greatest prices, row by row. -/
def prRow (rows : List (List Int)) (b : Int) (m : Nat) (p : List (List Int)) (k : Nat) : List Int := (List.range m).map (mpF rows b m p k)
def prTo (rows : List (List Int)) (b : Int) (m : Nat) : Nat → List (List Int)
  | 0 => []
  | k + 1 => prTo rows b m k ++ [prRow rows b m (prTo rows b m k) k]
section Prices
variable {rows : List (List Int)} {b : Int} {n m : Nat}
theorem prRow_length (p : List (List Int)) (k : Nat) : (prRow rows b m p k).length = m := by simp [prRow]
theorem prTo_length : ∀ k, (prTo rows b m k).length = k
  | 0 => rfl
  | k + 1 => by show (prTo rows b m k ++ [_]).length = _; rw [List.length_append, prTo_length k]; rfl
theorem getD_front {α : Type} (l r : List α) (j : Nat) (d : α) (h : j < l.length) : (l ++ r).getD j d = l.getD j d := by
  simp [List.getD_eq_getElem?_getD, List.getElem?_append_left h]
theorem getD_end {α : Type} (l : List α) (x d : α) (j : Nat) (h : j = l.length) : (l ++ [x]).getD j d = x := by
  subst h; simp [List.getD_eq_getElem?_getD]
theorem prTo_at : ∀ (k j : Nat), j < k → (prTo rows b m k).getD j [] = prRow rows b m (prTo rows b m j) j
  | 0, j, h => by omega
  | k + 1, j, h => by
    show (prTo rows b m k ++ [prRow rows b m (prTo rows b m k) k]).getD j [] = _
    by_cases e : j = k
    · subst e; exact getD_end _ _ _ _ (prTo_length _).symm
    · rw [getD_front _ _ _ _ (by rw [prTo_length]; omega)]
      exact prTo_at k j (by omega)
theorem mpF_congr {p p' : List (List Int)} {r c : Nat} (h : r ≠ 0 → p.getD (r - 1) [] = p'.getD (r - 1) []) : mpF rows b m p r c = mpF rows b m p' r c := by
  unfold mpF
  by_cases e : r = 0
  · rw [if_pos e, if_pos e]
  · rw [if_neg e, if_neg e, h e]
theorem mpF_prTo (k j c : Nat) (h : j ≤ k) : mpF rows b m (prTo rows b m k) j c = mpF rows b m (prTo rows b m j) j c :=
  mpF_congr fun hj => by rw [prTo_at k (j - 1) (by omega), prTo_at j (j - 1) (by omega)]
theorem cell_prTo (k j c : Nat) (h : j < k) (hc : c < m) : cellV (prTo rows b m k) j c = mpF rows b m (prTo rows b m k) j c := by
  rw [mpF_prTo k j c (by omega)]
  unfold cellV
  rw [prTo_at k j h]
  exact getD_mapRange _ _ _ hc
theorem prTo_bd (h : TkOk rows b n m) (k : Nat) : ∀ j, j < k → k ≤ n → ∀ x ∈ (prTo rows b m k).getD j [], 0 ≤ x ∧ x ≤ 1255 * ((j : Int) + 1) := by
  intro j
  induction j with
  | zero =>
    intro hj hk x hx
    rw [prTo_at k 0 hj] at hx
    simp only [prRow, List.mem_map, List.mem_range] at hx
    obtain ⟨c, hc, rfl⟩ := hx
    have hr := h.row _ (getD_in rows 0 [] (by rw [h.len]; omega))
    have h1 := hr.2 _ (getD_in _ c 0 (by rw [hr.1]; exact hc))
    unfold mpF cellV
    rw [if_pos rfl]
    omega
  | succ j ih =>
    intro hj hk x hx
    have ih' := ih (by omega) hk
    have hn40 := h.n40
    have hbb := h.bb
    have hx' := hx
    rw [prTo_at k (j + 1) hj] at hx
    simp only [prRow, List.mem_map, List.mem_range] at hx
    obtain ⟨c, hc, e⟩ := hx
    have hr := h.row _ (getD_in rows (j + 1) [] (by rw [h.len]; omega))
    have h1 := hr.2 _ (getD_in _ c 0 (by rw [hr.1]; exact hc))
    have hl : ((prTo rows b m k).getD j []).length = m := by rw [prTo_at k j (by omega), prRow_length]
    have h2 := chp_spec _ b (1255 * ((j : Int) + 1)) c m hc hl hbb.1 (by omega) ih'
    rw [← mpF_prTo k (j + 1) c (by omega)] at e
    unfold mpF cellV at e
    rw [if_neg (by omega), Nat.add_sub_cancel] at e
    omega
theorem prTo_row (h : TkOk rows b n m) (k : Nat) (hk : k ≤ n) (j : Nat) (hj : j < k) : ((prTo rows b m k).getD j []).length = m ∧ ∀ x ∈ (prTo rows b m k).getD j [], 0 ≤ x ∧ x ≤ 100000 := by
  refine ⟨by rw [prTo_at k j hj, prRow_length], fun x hx => ?_⟩
  have h1 := prTo_bd h k j hj hk x hx
  have hn40 := h.n40
  omega
theorem rowsE_of {cols : Nat} {lo hi : Int} : ∀ {p : List (List Int)}, (∀ r ∈ p, r.length = cols ∧ ∀ x ∈ r, lo ≤ x ∧ x ≤ hi) → rowsE cols lo hi p = 0
  | [], _ => rfl
  | r :: p, h => by
    have h1 := h r (by simp)
    have h2 : rowE cols lo hi r = 0 := by
      unfold rowE fromB
      rw [if_pos h1.1, if_pos (List.all_eq_true.2 fun x hx => by have := h1.2 x hx; simp [this.1, this.2])]
    unfold rowsE
    rw [if_pos h2]
    exact rowsE_of fun r hr => h r (by simp [hr])
theorem mem_getD {α : Type} (l : List α) (d : α) {x : α} (h : x ∈ l) : ∃ j, j < l.length ∧ l.getD j d = x := by
  obtain ⟨j, hj, e⟩ := List.getElem_of_mem h
  exact ⟨j, hj, by rw [List.getD_eq_getElem?_getD, List.getElem?_eq_getElem hj]; exact e⟩
/-- The greatest prices are accepted. -/
theorem prTo_ok (h : TkOk rows b n m) : pricesE rows b n m (prTo rows b m n) = 0 := by
  unfold pricesE
  rw [if_pos (prTo_length n), if_pos (rowsE_of fun r hr => by
    obtain ⟨j, hj, rfl⟩ := mem_getD _ [] hr
    rw [prTo_length] at hj
    have := prTo_row h n (Nat.le_refl _) j hj
    exact ⟨this.1, fun x hx => by have := this.2 x hx; omega⟩)]
  refine firstF_all fun j hj => firstF_all fun c hc => ?_
  unfold cellF
  rw [cell_prTo n j c hj hc, if_neg (Int.lt_irrefl _)]

theorem costF_congr {p q : List Int} : ∀ k, (∀ i, i < k → p.getD i 0 = q.getD i 0) → costF rows b p k = costF rows b q k
  | 0, _ => rfl
  | k + 1, h => by
    have ih := costF_congr k (fun i hi => h i (by omega))
    show costF rows b p k + valAt rows p k + bendAt b p k = costF rows b q k + valAt rows q k + bendAt b q k
    rw [ih]
    unfold valAt bendAt
    rw [h k (by omega)]
    by_cases e : k = 0
    · rw [if_pos e, if_pos e]
    · rw [if_neg e, if_neg e, h (k - 1) (by omega)]
/-- A path that costs what the price says. -/
theorem back_path (h : TkOk rows b n m) : ∀ (k t : Nat), k < n → t < m → ∃ q, pathE (k + 1) m q = 0 ∧ q.getD k 0 = (t : Int) ∧ costF rows b q (k + 1) = cellV (prTo rows b m n) k t
  | 0, t, hk, ht => by
    refine ⟨[(t : Int)], path_of rfl (fun j hj => ?_) (fun j hj => by omega), rfl, ?_⟩
    · obtain rfl : j = 0 := by omega
      show 0 ≤ (t : Int) ∧ (t : Int) ≤ _
      omega
    · rw [cell_prTo n 0 t hk ht]
      unfold mpF
      rw [if_pos rfl]
      show 0 + valAt rows [(t : Int)] 0 + bendAt b [(t : Int)] 0 = _
      rw [bendAt_zero]
      show 0 + cellV rows 0 ((t : Int)).toNat + 0 = _
      rw [Int.toNat_natCast]
      omega
  | k + 1, t, hk, ht => by
    have hrow := prTo_row h n (Nat.le_refl _) k (by omega)
    have hs := chp_spec _ b 100000 t m ht hrow.1 h.bb.1 (by have := h.bb; omega) hrow.2
    obtain ⟨x, hx⟩ : ∃ x, (chp ((prTo rows b m n).getD k []) b t m).1 = x := ⟨_, rfl⟩
    rw [hx] at hs
    have hnr := nbrs_near ht hs.1
    obtain ⟨q, q1, q2, q3⟩ := back_path h k x.toNat (by omega) (by omega)
    have hql := (path_in q1).1
    have hfr : ∀ i, i < k + 1 → (q ++ [(t : Int)]).getD i 0 = q.getD i 0 := fun i hi => getD_front _ _ _ _ (by omega)
    have hen : (q ++ [(t : Int)]).getD (k + 1) 0 = (t : Int) := getD_end _ _ _ _ hql.symm
    refine ⟨q ++ [(t : Int)], path_of (by simp [hql]) (fun j hj => ?_) (fun j hj => ?_), hen, ?_⟩
    · by_cases e : j = k + 1
      · subst e; rw [hen]; omega
      · rw [hfr j (by omega)]; exact (path_in q1).2 j (by omega)
    · by_cases e : j = k
      · subst e; rw [hen, hfr j (by omega), q2]; omega
      · rw [hfr j (by omega), hfr (j + 1) (by omega)]; exact path_near q1 j (by omega)
    · show costF rows b (q ++ [(t : Int)]) (k + 1) + valAt rows (q ++ [(t : Int)]) (k + 1) + bendAt b (q ++ [(t : Int)]) (k + 1) = _
      rw [costF_congr (k + 1) hfr, q3, bendAt_succ, hfr k (by omega), hen, q2, cell_prTo n (k + 1) t hk ht]
      unfold mpF valAt
      rw [if_neg (show ¬ k + 1 = 0 by omega), Nat.add_sub_cancel, hen, hs.2.1, Int.toNat_natCast]
      unfold chSum cellV
      have e1 : (if x = (t : Int) then (0 : Int) else b) = if ((x.toNat : Nat) : Int) = (t : Int) then 0 else b := by rw [show ((x.toNat : Nat) : Int) = x by omega]
      rw [e1]
      omega
theorem minK_at (xs : List Int) : ∀ k, ∃ t, t < k + 1 ∧ minK xs (k + 1) = xs.getD t 0
  | 0 => ⟨0, by omega, minK_one xs⟩
  | k + 1 => by
    obtain ⟨t, h1, h2⟩ := minK_at xs k
    show ∃ t, t < k + 2 ∧ min (minK xs (k + 1)) (xs.getD (k + 1) 0) = _
    by_cases e : minK xs (k + 1) ≤ xs.getD (k + 1) 0
    · exact ⟨t, by omega, by rw [Int.min_eq_left e, h2]⟩
    · exact ⟨k + 1, by omega, Int.min_eq_right (by omega)⟩
/-- The bound of the greatest prices is the cost of the best path. -/
theorem prTo_bound (h : TkOk rows b n m) {l : List Int} {c : Int} (hb : bestTo (fun _ _ => true) b m rows m = (l, c)) : boundF (prTo rows b m n) = c := by
  obtain ⟨h1, h2, h3, h4, h5, h6⟩ := best_spec h hb
  have hn0 := h.n0
  have hm0 := h.m0
  have hle := bound_le hn0 h.bb (prTo_ok h) h1
  have hrow := prTo_row h n (Nat.le_refl _) (n - 1) (by omega)
  obtain ⟨t, t1, t2⟩ := minK_at ((prTo rows b m n).getD (n - 1) []) (m - 1)
  rw [show m - 1 + 1 = m by omega] at t1 t2
  have e : boundF (prTo rows b m n) = cellV (prTo rows b m n) (n - 1) t := by
    unfold boundF
    rw [prTo_length, hrow.1, t2]
    rfl
  obtain ⟨q, q1, _, q3⟩ := back_path h (n - 1) t (by omega) t1
  rw [show n - 1 + 1 = n by omega] at q1 q3
  have := h5 q q1
  omega
end Prices

end Go.Proofs.YtjjflbnopphciaaGreatDoor

namespace Go.Proofs.YtjjflbnopphciaaGreatDoor

/-- The reference's five rows of points of a ring around 0. -/
def rgA (r n : Nat) : List (Int × Int) := (List.range n).map fun (k : Nat) => ((r : Int), (k : Int))
def rgB (r n : Nat) : List (Int × Int) := (List.range n).map fun (k : Nat) => ((r : Int) - 1 - (k : Int), (r : Int))
def rgC (r n : Nat) : List (Int × Int) := (List.range n).map fun (k : Nat) => (-(r : Int), (r : Int) - 1 - (k : Int))
def rgD (r n : Nat) : List (Int × Int) := (List.range n).map fun (k : Nat) => (-(r : Int) + 1 + (k : Int), -(r : Int))
def rgE (r n : Nat) : List (Int × Int) := (List.range n).map fun (k : Nat) => ((r : Int), -(r : Int) + 1 + (k : Int))
def refRing (r : Nat) : List (Int × Int) := rgA r (r + 1) ++ rgB r (2 * r) ++ rgC r (2 * r) ++ rgD r (2 * r) ++ rgE r (r - 1)
theorem map_cons (f : Nat → Int × Int) (n : Nat) : (List.range (n + 1)).map f = f 0 :: (List.range n).map fun k => f (k + 1) := by
  rw [List.range_succ_eq_map, List.map_cons, List.map_map]; rfl
theorem map_snoc (f : Nat → Int × Int) (n : Nat) : (List.range (n + 1)).map f = (List.range n).map f ++ [f n] := by simp [List.range_succ]
theorem side_eq (r i n : Nat) (x y a b : Int) (hs : startOf 0 0 r i = (x, y)) (hd : ((sd i).1, (sd i).2.1) = (a, b)) : sideTo 0 0 r i n = (List.range n).map fun (k : Nat) => (x + a * (k : Int), y + b * (k : Int)) := by
  unfold sideTo ptOf
  injection hd with h1 h2
  rw [hs, h1, h2]
theorem refRing_same (q : Nat) : refRing (q + 1) = ringTo 0 0 (q + 1) 5 := by
  have s0 : startOf 0 0 (q + 1) 0 = (((q : Int) + 1), 0) := by show (_, _) = _; simp
  have s1 : startOf 0 0 (q + 1) 1 = (((q : Int) + 1), (q : Int) + 1) := by
    unfold startOf; rw [s0]; simp [sd, sds]
  have s2 : startOf 0 0 (q + 1) 2 = (-((q : Int) + 1), (q : Int) + 1) := by
    unfold startOf; rw [s1]; simp [sd, sds]; omega
  have s3 : startOf 0 0 (q + 1) 3 = (-((q : Int) + 1), -((q : Int) + 1)) := by
    unfold startOf; rw [s2]; simp [sd, sds]; omega
  have s4 : startOf 0 0 (q + 1) 4 = (((q : Int) + 1), -((q : Int) + 1)) := by
    unfold startOf; rw [s3]; simp [sd, sds]; omega
  have e : ringTo 0 0 (q + 1) 5 = sideTo 0 0 (q + 1) 0 (q + 1) ++ sideTo 0 0 (q + 1) 1 (2 * q + 1 + 1) ++ sideTo 0 0 (q + 1) 2 (2 * q + 1 + 1) ++ sideTo 0 0 (q + 1) 3 (2 * q + 1 + 1) ++ sideTo 0 0 (q + 1) 4 (q + 1) := by
    simp only [ringTo, List.nil_append]
    rw [show (sd 0).2.2 * (q + 1) = q + 1 by simp [sd, sds], show (sd 1).2.2 * (q + 1) = 2 * q + 1 + 1 by simp [sd, sds]; omega, show (sd 2).2.2 * (q + 1) = 2 * q + 1 + 1 by simp [sd, sds]; omega, show (sd 3).2.2 * (q + 1) = 2 * q + 1 + 1 by simp [sd, sds]; omega, show (sd 4).2.2 * (q + 1) = q + 1 by simp [sd, sds]]
  rw [e, side_eq _ _ _ _ _ 0 1 s0 rfl, side_eq _ _ _ _ _ (-1) 0 s1 rfl, side_eq _ _ _ _ _ 0 (-1) s2 rfl, side_eq _ _ _ _ _ 1 0 s3 rfl, side_eq _ _ _ _ _ 0 1 s4 rfl]
  rw [map_cons _ (2 * q + 1), map_cons _ (2 * q + 1), map_cons _ (2 * q + 1), map_cons (fun (k : Nat) => (((q : Int) + 1) + 0 * (k : Int), -((q : Int) + 1) + 1 * (k : Int))) q]
  unfold refRing rgA rgB rgC rgD rgE
  rw [show 2 * (q + 1) = 2 * q + 1 + 1 by omega, map_snoc _ (q + 1), map_snoc _ (2 * q + 1), map_snoc _ (2 * q + 1), map_snoc _ (2 * q + 1), show q + 1 - 1 = q by omega]
  simp only [List.append_assoc, List.cons_append, List.nil_append, Int.natCast_add, Int.natCast_mul, Int.natCast_one, show ((2 : Nat) : Int) = 2 from rfl, show ((0 : Nat) : Int) = 0 from rfl]
  have c : ∀ (f g : Nat → Int × Int) (n : Nat) (a b : List (Int × Int)), (∀ k, f k = g k) → a = b → (List.range n).map f ++ a = (List.range n).map g ++ b := fun f g n a b h1 h2 => by rw [h2, funext h1]
  have cc : ∀ (a b : Int × Int) (l m : List (Int × Int)), a = b → l = m → a :: l = b :: m := fun a b l m h1 h2 => by rw [h1, h2]
  refine c _ _ _ _ _ (fun k => by ext <;> dsimp only <;> omega) ?_
  refine cc _ _ _ _ (by ext <;> dsimp only <;> omega) ?_
  refine c _ _ _ _ _ (fun k => by ext <;> dsimp only <;> omega) ?_
  refine cc _ _ _ _ (by ext <;> dsimp only <;> omega) ?_
  refine c _ _ _ _ _ (fun k => by ext <;> dsimp only <;> omega) ?_
  refine cc _ _ _ _ (by ext <;> dsimp only <;> omega) ?_
  refine c _ _ _ _ _ (fun k => by ext <;> dsimp only <;> omega) ?_
  refine cc _ _ _ _ (by ext <;> dsimp only <;> omega) ?_
  exact congrArg (fun h => (List.range q).map h) (funext fun k => by ext <;> dsimp only <;> omega)

end Go.Proofs.YtjjflbnopphciaaGreatDoor

namespace Go.Proofs.YtjjflbnopphciaaGreatDoor

theorem start_shift (cx cy : Int) (r : Nat) : ∀ i, startOf cx cy r i = (cx + (startOf 0 0 r i).1, cy + (startOf 0 0 r i).2)
  | 0 => by simp [startOf]
  | i + 1 => by
    have ih := start_shift cx cy r i
    unfold startOf
    rw [ih]
    ext <;> dsimp only <;> omega
theorem side_shift (cx cy : Int) (r i k : Nat) : sideTo cx cy r i k = (sideTo 0 0 r i k).map fun p => (cx + p.1, cy + p.2) := by
  unfold sideTo
  rw [List.map_map]
  refine congrArg (fun f => (List.range k).map f) (funext fun q => ?_)
  unfold ptOf
  rw [start_shift cx cy r i]
  ext <;> simp [Function.comp] <;> omega
theorem ring_shift (cx cy : Int) (r : Nat) : ∀ i, ringTo cx cy r i = (ringTo 0 0 r i).map fun p => (cx + p.1, cy + p.2)
  | 0 => rfl
  | i + 1 => by
    unfold ringTo
    rw [ring_shift cx cy r i, side_shift, List.map_append]
theorem ring_size (cx cy : Int) (r : Nat) : (ringTo cx cy r 5).length = 8 * r := by
  have h1 : ∀ i, (ringTo cx cy r (i + 1)).length = (ringTo cx cy r i).length + (sd i).2.2 * r := fun i => by simp [ringTo, sideTo]
  have e0 := h1 0; have e1 := h1 1; have e2 := h1 2; have e3 := h1 3; have e4 := h1 4
  have e : (ringTo cx cy r 0).length = 0 := rfl
  simp only [show (sd 0).2.2 = 1 from rfl, show (sd 1).2.2 = 2 from rfl, show (sd 2).2.2 = 2 from rfl, show (sd 3).2.2 = 2 from rfl, show (sd 4).2.2 = 1 from rfl, Nat.reduceAdd] at e0 e1 e2 e3 e4
  omega
/-- A point of a ring around a center, in an image of n rows and m columns. -/
def ptIn (n m : Nat) (cx cy : Int) (p : Int × Int) : Prop := (0 ≤ cy + p.2 ∧ cy + p.2 ≤ (n : Int) - 1) ∧ 0 ≤ cx + p.1 ∧ cx + p.1 ≤ (m : Int) - 1
instance (n m : Nat) (cx cy : Int) (p : Int × Int) : Decidable (ptIn n m cx cy p) := by unfold ptIn; infer_instance
def ptF (n m : Nat) (cx cy : Int) (l : List (Int × Int)) (i : Nat) : Int := if ptIn n m cx cy (l.getD i (0, 0)) then 0 else 23
theorem ring_bd {r : Nat} (h0 : 0 < r) {p : Int × Int} (h : p ∈ refRing r) : -(r : Int) ≤ p.1 ∧ p.1 ≤ r ∧ -(r : Int) ≤ p.2 ∧ p.2 ≤ r := by
  obtain ⟨q, rfl⟩ : ∃ q, r = q + 1 := ⟨r - 1, by omega⟩
  rw [refRing_same] at h
  have := ring_in h
  omega
theorem ring_ends {r : Nat} (h0 : 0 < r) : ((r : Int), (0 : Int)) ∈ refRing r ∧ ((0 : Int), (r : Int)) ∈ refRing r ∧ (-(r : Int), (0 : Int)) ∈ refRing r ∧ ((0 : Int), -(r : Int)) ∈ refRing r := by
  unfold refRing rgA rgB rgC rgD rgE
  simp only [List.mem_append, List.mem_map, List.mem_range]
  refine ⟨?_, ?_, ?_, ?_⟩
  · exact .inl (.inl (.inl (.inl ⟨0, by omega, rfl⟩)))
  · exact .inl (.inl (.inl (.inr ⟨r - 1, by omega, by ext <;> dsimp only <;> omega⟩)))
  · exact .inl (.inl (.inr ⟨r - 1, by omega, by ext <;> dsimp only <;> omega⟩))
  · exact .inl (.inr ⟨r - 1, by omega, by ext <;> dsimp only <;> omega⟩)
/-- The ring lies in the image, or a point of it doesn't. -/
theorem ring_has {n m r : Nat} {cx cy : Int} (h0 : 0 < r) : (∀ p ∈ refRing r, ptIn n m cx cy p) ↔ ((r : Int) ≤ cx ∧ cx ≤ (m : Int) - 1 - r) ∧ (r : Int) ≤ cy ∧ cy ≤ (n : Int) - 1 - r := by
  constructor
  · intro h
    obtain ⟨e1, e2, e3, e4⟩ := ring_ends h0
    have h1 := h _ e1; have h2 := h _ e2; have h3 := h _ e3; have h4 := h _ e4
    unfold ptIn at h1 h2 h3 h4
    dsimp only at h1 h2 h3 h4
    omega
  · intro h p hp
    have := ring_bd h0 hp
    unfold ptIn
    omega
theorem getD_mem2 {l : List (Int × Int)} {j : Nat} (h : j < l.length) : l.getD j (0, 0) ∈ l := by
  rw [List.getD_eq_getElem?_getD, List.getElem?_eq_getElem h]; exact List.getElem_mem _
theorem ptF_ok {n m : Nat} {cx cy : Int} {l : List (Int × Int)} (h : firstF (ptF n m cx cy l) l.length = 0) : ∀ p ∈ l, ptIn n m cx cy p := by
  intro p hp
  obtain ⟨i, hi, rfl⟩ := List.mem_iff_getElem.1 hp
  have := firstF_ok h i hi
  unfold ptF at this
  rw [List.getD_eq_getElem?_getD, List.getElem?_eq_getElem hi, Option.getD_some] at this
  by_cases e : ptIn n m cx cy l[i]
  · exact e
  · rw [if_neg e] at this; omega
theorem ptF_val (n m : Nat) (cx cy : Int) (l : List (Int × Int)) : ∀ k, firstF (ptF n m cx cy l) k = 0 ∨ firstF (ptF n m cx cy l) k = 23
  | 0 => .inl rfl
  | k + 1 => by
    show (if firstF (ptF n m cx cy l) k = 0 then ptF n m cx cy l k else firstF (ptF n m cx cy l) k) = 0 ∨ _ = 23
    have e : firstF (ptF n m cx cy l) (k + 1) = if firstF (ptF n m cx cy l) k = 0 then ptF n m cx cy l k else firstF (ptF n m cx cy l) k := rfl
    rw [e]
    rcases ptF_val n m cx cy l k with h | h
    · rw [if_pos h]; unfold ptF; split
      · exact .inl rfl
      · exact .inr rfl
    · rw [if_neg (by omega)]; exact .inr h
theorem ptF_all {n m : Nat} {cx cy : Int} {l : List (Int × Int)} (h : ∀ p ∈ l, ptIn n m cx cy p) : ∀ k, k ≤ l.length → firstF (ptF n m cx cy l) k = 0
  | 0, _ => rfl
  | k + 1, hk => by
    rw [firstF_step (ptF_all h k (by omega))]
    exact if_pos (h _ (getD_mem2 (by omega)))
/-- What the reference answers of a ring. -/
def rrE (n m : Nat) (cx cy r : Int) : Int := if 1 ≤ r ∧ r ≤ 24 then (if (0 ≤ cx ∧ cx ≤ 24) ∧ 0 ≤ cy ∧ cy ≤ 24 then firstF (ptF n m cx cy (refRing r.toNat)) (refRing r.toNat).length else 23) else 2
def rrL (rows : List (List Int)) (cx cy : Int) (l : List (Int × Int)) : List Int := l.map fun p => pix rows (cx + p.1, cy + p.2)
def rrX (rows : List (List Int)) (n m : Nat) (cx cy r : Int) : List Int := if rrE n m cx cy r = 0 then rrL rows cx cy (refRing r.toNat) else []
theorem rr_same {rows : List (List Int)} {n m : Nat} {cx cy r : Int} (hg : gridE 24 24 rows = 0) (hn : rows.length = n) (hm : (rows.getD 0 []).length = m) : rrE n m cx cy r = ringE rows cx cy r ∧ rrX rows n m cx cy r = ringX rows cx cy r := by
  have hb : n ≤ 24 ∧ m ≤ 24 := by
    obtain ⟨m', g1, g2, g3, g4, g5, g6⟩ := grid_ok hg
    omega
  have hE : rrE n m cx cy r = ringE rows cx cy r := by
    unfold rrE ringE
    rw [if_pos hg]
    by_cases h1 : 1 ≤ r ∧ r ≤ 24
    · rw [if_pos h1, if_pos (fromB_one.2 h1)]
      obtain ⟨q, rfl⟩ : ∃ q : Nat, r = (q : Int) := ⟨r.toNat, by omega⟩
      have hq : 0 < q := by omega
      rw [Int.toNat_natCast]
      unfold hasB
      rw [hm, hn]
      by_cases h2 : ((q : Int) ≤ cx ∧ cx ≤ (m : Int) - 1 - q) ∧ (q : Int) ≤ cy ∧ cy ≤ (n : Int) - 1 - q
      · rw [if_pos (by omega), fromB_one.2 h2.1, fromB_one.2 h2.2, ptF_all ((ring_has hq).2 h2) _ (Nat.le_refl _)]
        rfl
      · have e : ¬ (fromB (q : Int) ((m : Int) - 1 - q) [cx] && fromB (q : Int) ((n : Int) - 1 - q) [cy]) = true := by
          rw [Bool.and_eq_true, fromB_one, fromB_one]; exact h2
        rw [if_neg e]
        by_cases h3 : (0 ≤ cx ∧ cx ≤ 24) ∧ 0 ≤ cy ∧ cy ≤ 24
        · rw [if_pos h3]
          rcases ptF_val n m cx cy (refRing q) (refRing q).length with h | h
          · exact absurd ((ring_has hq).1 (ptF_ok h)) h2
          · exact h
        · rw [if_neg h3]
    · rw [if_neg h1, if_neg (by rw [fromB_one]; exact h1)]
  refine ⟨hE, ?_⟩
  unfold rrX ringX
  rw [hE]
  by_cases h0 : ringE rows cx cy r = 0
  · rw [if_pos h0, if_pos h0]
    have h1 : 1 ≤ r ∧ r ≤ 24 := by
      unfold ringE at h0
      rw [if_pos hg] at h0
      by_cases h1 : fromB 1 24 [r] = true
      · exact fromB_one.1 h1
      · rw [if_neg h1] at h0; omega
    obtain ⟨q, rfl⟩ : ∃ q : Nat, r = ((q + 1 : Nat) : Int) := ⟨r.toNat - 1, by omega⟩
    rw [Int.toNat_natCast, refRing_same, ring_shift cx cy (q + 1) 5, List.map_map]
    rfl
  · rw [if_neg h0, if_neg h0]

end Go.Proofs.YtjjflbnopphciaaGreatDoor

