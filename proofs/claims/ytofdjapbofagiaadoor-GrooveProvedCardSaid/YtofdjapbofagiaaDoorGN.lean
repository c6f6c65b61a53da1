import Derived.Test.YtofdjapbofagiaaDoorGF
import Derived.Test.YtofdjapbofagiaaDoorP7
import Derived.Test.YtofdjapbofagiaaDoorGX
import Derived.Test.YtofdjapbofagiaaDoorGD
import Derived.Test.YtofdjapbofagiaaDoorP3
import Derived.Test.YtofdjapbofagiaaDoorT0
import Derived.Test.YtofdjapbofagiaaDoorF4
namespace Go.Proofs.YtofdjapbofagiaaDoor
open Go.RowKit

/-- A task that has no error, as mathematics. -/
structure TkOk (rows : List (List Int)) (b : Int) (n m : Nat) : Prop where
  len : rows.length = n
  n0 : 0 < n
  n40 : n ≤ 40
  m0 : 0 < m
  m12 : m ≤ 12
  row : ∀ r ∈ rows, r.length = m ∧ ∀ x ∈ r, 0 ≤ x ∧ x ≤ 255
  bb : 0 ≤ b ∧ b ≤ 1000

theorem firstF_all {f : Nat → Int} : ∀ {n : Nat}, (∀ j, j < n → f j = 0) → firstF f n = 0
  | 0, _ => rfl
  | n + 1, h => by rw [firstF_step (firstF_all fun j hj => h j (by omega))]; exact h n (by omega)
theorem getD_mapRange (f : Nat → Int) (k c : Nat) (h : c < k) : ((List.range k).map f).getD c 0 = f c := by
  simp [List.getD_eq_getElem?_getD, h]
theorem path_near {n m : Nat} {path : List Int} (h : pathE n m path = 0) (j : Nat) (hj : j + 1 < n) : -1 ≤ path.getD (j + 1) 0 - path.getD j 0 ∧ path.getD (j + 1) 0 - path.getD j 0 ≤ 1 := by
  have hpl := path_in h
  have hpa : firstF (pAt m path) n = 0 := by unfold pathE at h; rw [if_pos hpl.1] at h; exact h
  have hx := hpl.2 (j + 1) hj
  have hst := firstF_ok hpa (j + 1) hj
  unfold pAt at hst
  rw [if_pos hx] at hst
  by_cases e : (j + 1 = 0 ∨ (-1 ≤ path.getD (j + 1) 0 - path.getD (j + 1 - 1) 0 ∧ path.getD (j + 1) 0 - path.getD (j + 1 - 1) 0 ≤ 1))
  · have e' := e.resolve_left (by omega)
    rw [Nat.add_sub_cancel] at e'
    exact e'
  · rw [if_neg e] at hst; omega
theorem path_step {n m : Nat} {path : List Int} (h : pathE n m path = 0) (j : Nat) (hj : j + 1 < n) : path.getD (j + 1) 0 ∈ nbrs (path.getD j 0).toNat m := by
  have hpl := path_in h
  have hx := hpl.2 (j + 1) hj
  have hy := hpl.2 j (by omega)
  have hst := path_near h j hj
  exact mem_nbrs hx.1 (by omega) (by omega) (by omega)
theorem path_of {n m : Nat} {path : List Int} (hl : path.length = n) (h0 : ∀ j, j < n → 0 ≤ path.getD j 0 ∧ path.getD j 0 ≤ (m : Int) - 1) (h1 : ∀ j, j + 1 < n → -1 ≤ path.getD (j + 1) 0 - path.getD j 0 ∧ path.getD (j + 1) 0 - path.getD j 0 ≤ 1) : pathE n m path = 0 := by
  unfold pathE
  rw [if_pos hl]
  refine firstF_all fun j hj => ?_
  rcases j with _ | j
  · exact pAt_first (h0 0 hj)
  · exact pAt_step (h0 _ hj) (h1 j hj)

section Rests
variable {rows : List (List Int)} {b : Int} {n m : Nat}

theorem X_ok (may : Nat → Bool) (h : TkOk rows b n m) (j : Nat) (hj : j < n) : ((restsL may b m rows).getD j []).length = m ∧ ∀ x ∈ (restsL may b m rows).getD j [], 0 ≤ x ∧ x ≤ 200000 := by
  have hl := h.len
  have h40 := h.n40
  refine ⟨restsL_rowlen may b m rows (fun r hr => (h.row r hr).1) j (by omega), fun x hx => ?_⟩
  have := restsL_bd may b m h.bb rows h.row (by omega) _ (getD_in _ j [] (by rw [restsL_length]; omega)) x hx
  omega
def endC (may : Nat → Bool) (c : Nat) : Int := if may c = true then 0 else 50200
theorem endC_yes {may : Nat → Bool} {c : Nat} (h : may c = true) : endC may c = 0 := if_pos h
theorem endC_no {may : Nat → Bool} {c : Nat} (h : ¬ may c = true) : endC may c = 50200 := if_neg h
theorem X_at (may : Nat → Bool) (h : TkOk rows b n m) (j c : Nat) (hj : j < n) (hc : c < m) : cellV (restsL may b m rows) j c = cellV rows j c + (if j + 1 = n then endC may c else (chp ((restsL may b m rows).getD (j + 1) []) b c m).2) := by
  have hr := (h.row _ (getD_in rows j [] (by rw [h.len]; exact hj))).1
  unfold cellV
  rw [restsL_row may b m rows j (by rw [h.len]; exact hj), h.len]
  by_cases e : j + 1 = n
  · rw [if_pos e, if_pos e]; exact getD_mapRange _ _ _ (by rw [hr]; exact hc)
  · rw [if_neg e, if_neg e]; exact getD_mapRange _ _ _ (by rw [hr]; exact hc)

/-- The cost of the beginning of a path and the least rest from there on. -/
def vV (may : Nat → Bool) (rows : List (List Int)) (b : Int) (m : Nat) (path : List Int) (j : Nat) : Int := cellV (restsL may b m rows) j (path.getD j 0).toNat + costF rows b path j + bendAt b path j
theorem v_zero (may : Nat → Bool) (path : List Int) : vV may rows b m path 0 = cellV (restsL may b m rows) 0 (path.getD 0 0).toNat := by
  unfold vV
  rw [bendAt_zero]
  show _ + (0 : Int) + 0 = _
  omega
theorem v_last (may : Nat → Bool) (h : TkOk rows b n m) {path : List Int} (hp : pathE n m path = 0) : vV may rows b m path (n - 1) = costF rows b path n + endC may (path.getD (n - 1) 0).toNat := by
  have h0 := h.n0
  have hx := (path_in hp).2 (n - 1) (by omega)
  unfold vV
  rw [X_at may h (n - 1) _ (by omega) (by omega), if_pos (by omega)]
  have e : costF rows b path (n - 1 + 1) = costF rows b path (n - 1) + valAt rows path (n - 1) + bendAt b path (n - 1) := rfl
  rw [show n - 1 + 1 = n by omega] at e
  have e2 : valAt rows path (n - 1) = cellV rows (n - 1) (path.getD (n - 1) 0).toNat := rfl
  omega
theorem v_step (may : Nat → Bool) (h : TkOk rows b n m) {path : List Int} (hp : pathE n m path = 0) (j : Nat) (hj : j + 1 < n) :
    vV may rows b m path j + chSum ((restsL may b m rows).getD (j + 1) []) b (path.getD j 0).toNat (path.getD (j + 1) 0) = vV may rows b m path (j + 1) + (chp ((restsL may b m rows).getD (j + 1) []) b (path.getD j 0).toNat m).2 := by
  have hx := (path_in hp).2 j (by omega)
  unfold vV chSum
  rw [X_at may h j _ (by omega) (by omega), if_neg (by omega), bendAt_succ]
  have e : costF rows b path (j + 1) = costF rows b path j + valAt rows path j + bendAt b path j := rfl
  have e2 : valAt rows path j = cellV rows j (path.getD j 0).toNat := rfl
  have e3 : cellV (restsL may b m rows) (j + 1) (path.getD (j + 1) 0).toNat = ((restsL may b m rows).getD (j + 1) []).getD (path.getD (j + 1) 0).toNat 0 := rfl
  have e4 : (if path.getD (j + 1) 0 = ((path.getD j 0).toNat : Int) then (0 : Int) else b) = if path.getD j 0 = path.getD (j + 1) 0 then 0 else b := by
    rw [show ((path.getD j 0).toNat : Int) = path.getD j 0 by omega]
    by_cases e : path.getD (j + 1) 0 = path.getD j 0
    · rw [if_pos e, if_pos e.symm]
    · rw [if_neg e, if_neg (fun e' => e e'.symm)]
  rw [e4]
  omega
theorem v_le (may : Nat → Bool) (h : TkOk rows b n m) {path : List Int} (hp : pathE n m path = 0) (j : Nat) (hj : j + 1 < n) : vV may rows b m path j ≤ vV may rows b m path (j + 1) := by
  have hx := (path_in hp).2 j (by omega)
  have h1 := v_step may h hp j hj
  have hX := X_ok may h (j + 1) hj
  have h2 := (chp_spec _ b 200000 (path.getD j 0).toNat m (by omega) hX.1 h.bb.1 (by have := h.bb; omega) hX.2).2.2.2.2 _ (path_step hp j hj)
  omega
theorem v_chain (may : Nat → Bool) (h : TkOk rows b n m) {path : List Int} (hp : pathE n m path = 0) (i : Nat) : ∀ d, i + d < n → vV may rows b m path i ≤ vV may rows b m path (i + d)
  | 0, _ => Int.le_refl _
  | d + 1, hd => Int.le_trans (v_chain may h hp i d (by omega)) (v_le may h hp (i + d) (by omega))
/-- No path that may end there costs less. -/
theorem rest_least (may : Nat → Bool) (h : TkOk rows b n m) {path : List Int} (hp : pathE n m path = 0) (hm : may (path.getD (n - 1) 0).toNat = true) : cellV (restsL may b m rows) 0 (path.getD 0 0).toNat ≤ costF rows b path n := by
  have h0 := h.n0
  have h1 := v_chain may h hp 0 (n - 1) (by omega)
  rw [Nat.zero_add, v_last may h hp, endC_yes hm, v_zero] at h1
  omega
theorem rest_tight (may : Nat → Bool) (h : TkOk rows b n m) {path : List Int} (hp : pathE n m path = 0) (hm : may (path.getD (n - 1) 0).toNat = true) (hc : costF rows b path n = cellV (restsL may b m rows) 0 (path.getD 0 0).toNat) (j : Nat) (hj : j + 1 < n) :
    chSum ((restsL may b m rows).getD (j + 1) []) b (path.getD j 0).toNat (path.getD (j + 1) 0) = (chp ((restsL may b m rows).getD (j + 1) []) b (path.getD j 0).toNat m).2 := by
  have h0 := h.n0
  have h1 := v_chain may h hp 0 j (by omega)
  have h2 := v_le may h hp j hj
  have h3 := v_chain may h hp (j + 1) (n - 1 - (j + 1)) (by omega)
  rw [show j + 1 + (n - 1 - (j + 1)) = n - 1 by omega, v_last may h hp, endC_yes hm] at h3
  rw [Nat.zero_add, v_zero] at h1
  have h4 := v_step may h hp j hj
  omega

/-- The path along the rests. -/
theorem along_ok (may : Nat → Bool) (h : TkOk rows b n m) {first : Nat} (hf : first < m) : pathE n m (pathL b m (restsL may b m rows) first n) = 0 := by
  have hX := X_ok may h
  have hs := colAt_step (first := first) hf h.bb hX
  refine path_of (pathL_length _ _ _ _ _) (fun j hj => ?_) (fun j hj => ?_)
  · rw [pathL_at _ _ _ _ _ _ hj]
    have := (hs j hj).1
    omega
  · rw [pathL_at _ _ _ _ _ _ hj, pathL_at _ _ _ _ _ _ (by omega)]
    have h1 := (hs j (by omega)).1
    have h2 := (hs j (by omega)).2 hj
    have h3 := (chp_spec _ b 200000 _ m h1 (hX _ hj).1 h.bb.1 (by have := h.bb; omega) (hX _ hj).2).1
    have h4 := nbrs_near h1 h3
    rw [h2] at h4
    omega
theorem along_step (may : Nat → Bool) (h : TkOk rows b n m) {first : Nat} (hf : first < m) (j : Nat) (hj : j + 1 < n) :
    (pathL b m (restsL may b m rows) first n).getD (j + 1) 0 = (chp ((restsL may b m rows).getD (j + 1) []) b ((pathL b m (restsL may b m rows) first n).getD j 0).toNat m).1 := by
  have hX := X_ok may h
  have hs := colAt_step (first := first) hf h.bb hX
  rw [pathL_at _ _ _ _ _ _ hj, pathL_at _ _ _ _ _ _ (by omega), Int.toNat_natCast]
  exact ((hs j (by omega)).2 hj).symm
theorem along_cost (may : Nat → Bool) (h : TkOk rows b n m) {first : Nat} (hf : first < m) :
    cellV (restsL may b m rows) 0 first = costF rows b (pathL b m (restsL may b m rows) first n) n + endC may ((pathL b m (restsL may b m rows) first n).getD (n - 1) 0).toNat := by
  have h0 := h.n0
  have hp := along_ok may h hf
  have hX := X_ok may h
  have hv : ∀ j, j < n → vV may rows b m (pathL b m (restsL may b m rows) first n) 0 = vV may rows b m (pathL b m (restsL may b m rows) first n) j := by
    intro j
    induction j with
    | zero => intro _; rfl
    | succ j ih =>
      intro hj
      rw [ih (by omega)]
      have h1 := v_step may h hp j hj
      have hx := (path_in hp).2 j (by omega)
      have h2 := (chp_spec _ b 200000 ((pathL b m (restsL may b m rows) first n).getD j 0).toNat m (by omega) (hX _ hj).1 h.bb.1 (by have := h.bb; omega) (hX _ hj).2).2.1
      rw [← along_step may h hf j hj] at h2
      omega
  have h1 := hv (n - 1) (by omega)
  rw [v_last may h hp, v_zero, pathL_at _ _ _ _ _ _ h0] at h1
  exact h1
end Rests

/-- The first of several cheapest neighbours. -/
theorem chFold_same (costs : List Int) (b : Int) (c : Nat) : ∀ (l : List Int) (s : Int × Int), (l.foldl (chStep costs b c) s).2 = s.2 → l.foldl (chStep costs b c) s = s
  | [], _, _ => rfl
  | x :: l, s, h => by
    rw [List.foldl_cons] at h ⊢
    have h1 := (chFold costs b c l (chStep costs b c s x)).1
    have e : chStep costs b c s x = if chSum costs b c x < s.2 then (x, chSum costs b c x) else s := rfl
    by_cases hx : chSum costs b c x < s.2
    · rw [e, if_pos hx] at h1 h
      dsimp only at h1
      omega
    · rw [e, if_neg hx] at h ⊢
      exact chFold_same costs b c l s h
theorem chFold_first (costs : List Int) (b : Int) (c : Nat) : ∀ (l : List Int) (s : Int × Int), l.Pairwise (· < ·) → ∀ x ∈ l, chSum costs b c x = (l.foldl (chStep costs b c) s).2 → (l.foldl (chStep costs b c) s).1 ≤ x ∨ l.foldl (chStep costs b c) s = s
  | [], _, _, x, hx, _ => by simp at hx
  | y :: l, s, hp, x, hx, h => by
    rw [List.foldl_cons] at h ⊢
    have h1 := (chFold costs b c l (chStep costs b c s y)).1
    have e : chStep costs b c s y = if chSum costs b c y < s.2 then (y, chSum costs b c y) else s := rfl
    rw [List.pairwise_cons] at hp
    have ih := chFold_first costs b c l (chStep costs b c s y) hp.2 x
    rcases List.mem_cons.1 hx with rfl | hx
    · by_cases hy : chSum costs b c x < s.2
      · rw [e, if_pos hy] at h h1 ⊢
        have h2 := chFold_same costs b c l (x, chSum costs b c x) (by rw [← h])
        rw [h2]
        exact .inl (Int.le_refl _)
      · rw [e, if_neg hy] at h h1 ⊢
        exact .inr (chFold_same costs b c l s (by omega))
    · rcases ih hx h with h2 | h2
      · exact .inl h2
      · by_cases hy : chSum costs b c y < s.2
        · rw [e, if_pos hy] at h2 ⊢
          rw [h2]
          exact .inl (Int.le_of_lt (hp.1 x hx))
        · rw [e, if_neg hy] at h2 ⊢
          exact .inr h2
theorem nbrs_asc (c cols : Nat) : (nbrs c cols).Pairwise (· < ·) := by
  unfold nbrs
  rw [List.pairwise_map]
  exact List.pairwise_lt_range.imp (fun h => by omega)
theorem chp_first {costs : List Int} {b M : Int} {c cols : Nat} (hc : c < cols) (hl : costs.length = cols) (hb : 0 ≤ b) (hM : M + b < 9223372036854775807) (hcs : ∀ x ∈ costs, 0 ≤ x ∧ x ≤ M) {x : Int} (hx : x ∈ nbrs c cols) (h : chSum costs b c x = (chp costs b c cols).2) : (chp costs b c cols).1 ≤ x := by
  have h1 := chp_spec costs b M c cols hc hl hb hM hcs
  rcases chFold_first costs b c (nbrs c cols) (0, 9223372036854775807) (nbrs_asc c cols) x hx h with h2 | h2
  · exact h2
  · have h3 : (chp costs b c cols).2 = 9223372036854775807 := congrArg Prod.snd h2
    omega

/-- A list is before another one. -/
def beforeL : List Int → List Int → Bool
  | [], [] => false
  | [], _ :: _ => true
  | _ :: _, [] => false
  | x :: a, y :: b => if x = y then beforeL a b else decide (x < y)
theorem before_split : ∀ {a b : List Int}, a.length = b.length → beforeL a b = true → ∃ j, j < a.length ∧ (∀ i, i < j → a.getD i 0 = b.getD i 0) ∧ a.getD j 0 < b.getD j 0
  | [], [], _, h => by simp [beforeL] at h
  | [], _ :: _, hl, _ => by simp at hl
  | _ :: _, [], hl, _ => by simp at hl
  | x :: a, y :: b, hl, h => by
    unfold beforeL at h
    by_cases e : x = y
    · rw [if_pos e] at h
      obtain ⟨j, h1, h2, h3⟩ := before_split (by simpa using hl) h
      refine ⟨j + 1, by simp; omega, fun i hi => ?_, by simpa using h3⟩
      rcases i with _ | i
      · simpa using e
      · simpa using h2 i (by omega)
    · rw [if_neg e] at h
      exact ⟨0, by simp, fun i hi => by omega, by simpa using h⟩
theorem before_tri : ∀ {a b : List Int}, a.length = b.length → beforeL a b = false → beforeL b a = false → a = b
  | [], [], _, _, _ => rfl
  | [], _ :: _, hl, _, _ => by simp at hl
  | _ :: _, [], hl, _, _ => by simp at hl
  | x :: a, y :: b, hl, h, h' => by
    unfold beforeL at h h'
    by_cases e : x = y
    · rw [if_pos e] at h
      rw [if_pos e.symm] at h'
      rw [e, before_tri (by simpa using hl) h h']
    · rw [if_neg e] at h
      rw [if_neg (fun e' => e e'.symm)] at h'
      simp only [decide_eq_false_iff_not] at h h'
      omega
theorem before_head {a b : List Int} (hl : a.length = b.length) (h0 : 0 < a.length) (h : a.getD 0 0 < b.getD 0 0) : beforeL a b = true := by
  rcases a with _ | ⟨x, a⟩
  · simp at h0
  · rcases b with _ | ⟨y, b⟩
    · simp at hl
    · simp at h
      unfold beforeL
      rw [if_neg (by omega), decide_eq_true h]

end Go.Proofs.YtofdjapbofagiaaDoor

namespace Go.Proofs.YtofdjapbofagiaaDoor
open Go.RowKit

theorem beforeL_nil_right : ∀ (xs : List Int), beforeL xs [] = false
  | [] => rfl
  | _ :: _ => rfl
theorem before_same {xs ys : List Int} {i : Nat} (hx : i < xs.length) (hy : i < ys.length) (h : xs.getD i 0 = ys.getD i 0) : beforeL (xs.drop i) (ys.drop i) = beforeL (xs.drop (i + 1)) (ys.drop (i + 1)) := by
  rw [List.drop_eq_getElem_cons hx, List.drop_eq_getElem_cons hy]
  rw [List.getD_eq_getElem?_getD, List.getElem?_eq_getElem hx, List.getD_eq_getElem?_getD, List.getElem?_eq_getElem hy] at h
  exact if_pos h
theorem before_differ {xs ys : List Int} {i : Nat} (hx : i < xs.length) (hy : i < ys.length) (h : ¬ xs.getD i 0 = ys.getD i 0) : beforeL (xs.drop i) (ys.drop i) = decide (xs.getD i 0 < ys.getD i 0) := by
  rw [List.drop_eq_getElem_cons hx, List.drop_eq_getElem_cons hy]
  rw [List.getD_eq_getElem?_getD, List.getElem?_eq_getElem hx, List.getD_eq_getElem?_getD, List.getElem?_eq_getElem hy] at h ⊢
  exact if_neg h

set_option maxRecDepth 100000 in
set_option maxHeartbeats 1000000 in
/-- Whether a list of the same length is before another one. -/
theorem before_any (A B : Option Addr) (n c d : Nat) (xs ys : List Int) (w : World) (hr : RdI w A n xs) (hs : RdI w B n ys) (hn : n ≤ 1000000) :
    Calls Tryd.prog 41 #[.slice A n c, .slice B n d] w fun e w' => e = .returned (.bool (beforeL xs ys)) ∧ Below w.heap.size w w' := by
  have HR := Lib.hid hr
  have HS := Lib.hid hs
  obtain ⟨E, hE⟩ : ∃ E, beforeL xs ys = E := ⟨_, rfl⟩
  rw [hE]
  have HE : Hid (E = beforeL xs ys) := hE.symm
  clear hr hs hE
  go_enter Tryd.func41, Tryd.ntmps41
  go_wp2
  go_loopw [5] (fun i wr => ∃ k : Nat, k ≤ n ∧ i = .int .i64 k ∧ Hid (E = beforeL (xs.drop k) (ys.drop k)) ∧ Hid (∃ j, wr = w.drewN j)) (fun i _ => n - (intOf i).toNat)
  case atStart => exact ⟨0, Nat.zero_le _, rfl, HE.out, 0, rfl⟩
  case round =>
    obtain ⟨k, hk, rfl, HF, HJ⟩ := hrel
    obtain ⟨j, hj⟩ := HJ.out
    by_cases hlt : k < n
    · have hkI : (k : Int) < (n : Int) := by omega
      have hk0 : (0 : Int) ≤ (k : Int) := by omega
      obtain ⟨a, rfl, _, h1⟩ := HR.out.2 (by omega)
      obtain ⟨a', rfl, _, h2⟩ := HS.out.2 (by omega)
      have q1 : wr.cell? (a.add k) = some (.int .i64 (xs.getD k 0)) := by rw [hj]; exact h1 k hlt
      have q2 : wr.cell? (a'.add k) = some (.int .i64 (ys.getD k 0)) := by rw [hj]; exact h2 k hlt
      obtain ⟨x, hx⟩ : ∃ x, xs.getD k 0 = x := ⟨_, rfl⟩
      obtain ⟨y, hy⟩ : ∃ y, ys.getD k 0 = y := ⟨_, rfl⟩
      have HXY : Hid (xs.getD k 0 = x ∧ ys.getD k 0 = y) := ⟨hx, hy⟩
      rw [hx] at q1
      rw [hy] at q2
      have HJ' := Lib.hid hj
      clear hj HJ h1 h2 hx hy
      by_cases hxy : x = y
      · have HF2 : Hid (E = beforeL (xs.drop (k + 1)) (ys.drop (k + 1))) := by
          show _ = _
          rw [HF.out]
          exact before_same (by rw [HR.out.1]; exact hlt) (by rw [HS.out.1]; exact hlt) (by rw [HXY.out.1, HXY.out.2, hxy])
        have hne : (x != y) = false := by rw [hxy]; simp
        clear hxy
        go_wp2
        go_quiet (fail)
        go_wp2
        go_roundw
        case rel =>
          refine ⟨k + 1, by omega, by go_num, HF2.out, ?_⟩
          show ∃ _, _ = _
          rw [HJ'.out]; exact ⟨_, World.drewN_drewN _ _ _⟩
        case measure => simp [intOf]; omega
      · have hEd : E = decide (x < y) := by
          rw [HF.out, ← HXY.out.1, ← HXY.out.2]
          exact before_differ (by rw [HR.out.1]; exact hlt) (by rw [HS.out.1]; exact hlt) (by rw [HXY.out.1, HXY.out.2]; exact hxy)
        have hne : (x != y) = true := by simpa using hxy
        subst hEd
        clear hxy
        go_wp2
        go_quiet (fail)
        go_wp2
        go_quiet (fail)
        go_wp2
        go_ret
        rw [HJ'.out]
        exact ⟨rfl, belowDrewN (belowDrewN (belowDrewN (Below.refl _ _) _) _) _⟩
    · obtain rfl : n = k := by omega
      have e1 : xs.drop n = [] := List.drop_eq_nil_of_le (by rw [HR.out.1]; exact Nat.le_refl _)
      have e2 : ys.drop n = [] := List.drop_eq_nil_of_le (by rw [HS.out.1]; exact Nat.le_refl _)
      have hEf : E = false := by rw [HF.out, e1, e2]; rfl
      clear e1 e2
      subst hEf
      clear hj
      go_wp2
      go_ret
      obtain ⟨j, hj⟩ := HJ.out
      exact ⟨rfl, by rw [hj]; exact belowDrewN (Below.refl _ _) _⟩

end Go.Proofs.YtofdjapbofagiaaDoor

namespace Go.Proofs.YtofdjapbofagiaaDoor
open Go.RowKit

section Best
variable {rows : List (List Int)} {b : Int} {n m : Nat}

theorem nth_nonneg {q : List Int} (hq : pathE n m q = 0) (j : Nat) (hj : j < n) : ((q.getD j 0).toNat : Int) = q.getD j 0 ∧ (q.getD j 0).toNat < m := by
  have := (path_in hq).2 j hj
  omega
/-- No path of the same cost from the same column is before the path along the rests. -/
theorem along_first (may : Nat → Bool) (h : TkOk rows b n m) {first : Nat} (hf : first < m) {q : List Int} (hq : pathE n m q = 0) (hm : may (q.getD (n - 1) 0).toNat = true) (h0 : q.getD 0 0 = (first : Int))
    (hc : costF rows b q n = cellV (restsL may b m rows) 0 first) : beforeL q (pathL b m (restsL may b m rows) first n) = false := by
  have hX := X_ok may h
  have hp := along_ok may h hf
  have hql := (path_in hq).1
  rcases hB : beforeL q (pathL b m (restsL may b m rows) first n) with _ | _
  · rfl
  · exfalso
    obtain ⟨j, h1, h2, h3⟩ := before_split (by rw [hql, pathL_length]) hB
    rw [hql] at h1
    rcases j with _ | j
    · rw [pathL_at _ _ _ _ _ _ h1, h0] at h3
      exact absurd h3 (Int.lt_irrefl _)
    · have e := h2 j (by omega)
      have h4 := rest_tight may h hq hm (by rw [hc, h0, Int.toNat_natCast]) j h1
      have hx := nth_nonneg hq j (by omega)
      have h5 := chp_first (M := 200000) hx.2 (hX _ h1).1 h.bb.1 (by have := h.bb; omega) (hX _ h1).2 (path_step hq j h1) h4
      rw [along_step may h hf j h1, ← e] at h3
      omega

/-- The search for the first column. -/
theorem bestTo_spec (mf : Nat → Nat → Bool) (hn : rows.length = n) : ∀ k, (bestTo mf b m rows k = ([], 50200) ∧ ∀ i, i < k → 50200 ≤ cellV (restsL (mf i) b m rows) 0 i) ∨
    ∃ i, i < k ∧ bestTo mf b m rows k = (pathL b m (restsL (mf i) b m rows) i n, cellV (restsL (mf i) b m rows) 0 i) ∧ cellV (restsL (mf i) b m rows) 0 i < 50200 ∧ (∀ j, j < k → cellV (restsL (mf i) b m rows) 0 i ≤ cellV (restsL (mf j) b m rows) 0 j) ∧ ∀ j, j < i → cellV (restsL (mf i) b m rows) 0 i < cellV (restsL (mf j) b m rows) 0 j
  | 0 => .inl ⟨rfl, fun i hi => by omega⟩
  | k + 1 => by
    have e : bestTo mf b m rows (k + 1) = if cellV (restsL (mf k) b m rows) 0 k < (bestTo mf b m rows k).2 then (pathL b m (restsL (mf k) b m rows) k n, cellV (restsL (mf k) b m rows) 0 k) else bestTo mf b m rows k := by rw [← hn]; rfl
    rw [e]
    rcases bestTo_spec mf hn k with ⟨h1, h2⟩ | ⟨i, h1, h2, h3, h4, h5⟩
    · rw [h1]
      by_cases hk : cellV (restsL (mf k) b m rows) 0 k < 50200
      · rw [if_pos hk]
        refine .inr ⟨k, by omega, rfl, hk, fun j hj => ?_, fun j hj => ?_⟩
        · by_cases ej : j = k
          · subst ej; exact Int.le_refl _
          · have := h2 j (by omega); omega
        · have := h2 j hj; omega
      · rw [if_neg hk]
        refine .inl ⟨rfl, fun j hj => ?_⟩
        by_cases ej : j = k
        · subst ej; omega
        · exact h2 j (by omega)
    · rw [h2]
      by_cases hk : cellV (restsL (mf k) b m rows) 0 k < cellV (restsL (mf i) b m rows) 0 i
      · rw [if_pos hk]
        refine .inr ⟨k, by omega, rfl, by omega, fun j hj => ?_, fun j hj => ?_⟩
        · by_cases ej : j = k
          · subst ej; exact Int.le_refl _
          · have := h4 j (by omega); omega
        · have := h4 j hj; omega
      · rw [if_neg hk]
        refine .inr ⟨i, by omega, rfl, h3, fun j hj => ?_, h5⟩
        by_cases ej : j = k
        · subst ej; omega
        · exact h4 j (by omega)

theorem val_bd (h : TkOk rows b n m) {q : List Int} (hq : pathE n m q = 0) (j : Nat) (hj : j < n) : 0 ≤ valAt rows q j ∧ valAt rows q j ≤ 255 := by
  have hx := nth_nonneg hq j hj
  have hr := h.row _ (getD_in rows j [] (by rw [h.len]; exact hj))
  exact hr.2 _ (getD_in _ _ 0 (by rw [hr.1]; exact hx.2))
theorem cost_nonneg (h : TkOk rows b n m) {q : List Int} (hq : pathE n m q = 0) : 0 ≤ costF rows b q n := (costF_bd h.bb (fun j hj => val_bd h hq j hj)).1

/-- The straight path in column 0. -/
theorem straight_at (k j : Nat) : (List.replicate k (0 : Int)).getD j 0 = 0 := by
  simp only [List.getD_eq_getElem?_getD, List.getElem?_replicate]
  split <;> rfl
theorem straight_ok (h : TkOk rows b n m) : pathE n m (List.replicate n 0) = 0 := by
  have := h.m0
  refine path_of (by simp) (fun j hj => ?_) (fun j hj => ?_)
  · rw [straight_at]; omega
  · rw [straight_at, straight_at]; omega
theorem straight_cost (h : TkOk rows b n m) : ∀ k, k ≤ n → costF rows b (List.replicate n 0) k ≤ 255 * (k : Int)
  | 0, _ => by simp [costF]
  | k + 1, hk => by
    have ih := straight_cost h k (by omega)
    have h1 := val_bd h (straight_ok h) k (by omega)
    have e : costF rows b (List.replicate n 0) (k + 1) = costF rows b (List.replicate n 0) k + valAt rows (List.replicate n 0) k + bendAt b (List.replicate n 0) k := rfl
    have e2 : bendAt b (List.replicate n 0) k = 0 := by
      unfold bendAt
      rw [straight_at, straight_at, if_pos rfl]
      split <;> rfl
    rw [e, e2]
    omega

/-- The best path: valid, at its cost; none costs less, none that costs as much is before it. -/
theorem best_spec (h : TkOk rows b n m) {l : List Int} {c : Int} (hb : bestTo (fun _ _ => true) b m rows m = (l, c)) :
    pathE n m l = 0 ∧ costF rows b l n = c ∧ 0 ≤ c ∧ c < 50200 ∧ (∀ q, pathE n m q = 0 → c ≤ costF rows b q n) ∧ ∀ q, pathE n m q = 0 → costF rows b q n = c → beforeL q l = false := by
  have hm0 := h.m0
  have hn0 := h.n0
  have hn40 := h.n40
  have hlow : ∀ q, pathE n m q = 0 → cellV (restsL (fun _ => true) b m rows) 0 (q.getD 0 0).toNat ≤ costF rows b q n := fun q hq => rest_least (fun _ => true) h hq rfl
  rcases bestTo_spec (b := b) (m := m) (fun _ _ => true) h.len m with ⟨h1, h2⟩ | ⟨i, h1, h2, h3, h4, h5⟩
  · exfalso
    have h6 := hlow _ (straight_ok h)
    have h7 := straight_cost h n (Nat.le_refl _)
    rw [straight_at] at h6
    have h8 := h2 0 hm0
    have h9 : cellV (restsL (fun _ => true) b m rows) 0 0 ≤ costF rows b (List.replicate n 0) n := h6
    have h10 : (50200 : Int) ≤ cellV (restsL (fun _ => true) b m rows) 0 0 := h8
    omega
  · rw [hb] at h2
    obtain ⟨rfl, rfl⟩ := Prod.mk.inj h2
    have hp := along_ok (fun _ => true) h h1
    have hcost := along_cost (fun _ => true) h h1
    rw [endC_yes rfl, Int.add_zero] at hcost
    have hmin : ∀ q, pathE n m q = 0 → cellV (restsL (fun _ => true) b m rows) 0 i ≤ costF rows b q n := fun q hq => Int.le_trans (h4 _ (nth_nonneg hq 0 hn0).2) (hlow q hq)
    refine ⟨hp, hcost.symm, ?_, h3, hmin, fun q hq hc => ?_⟩
    · show 0 ≤ cellV (restsL (fun _ => true) b m rows) 0 i
      rw [hcost]; exact cost_nonneg h hp
    · change costF rows b q n = cellV (restsL (fun _ => true) b m rows) 0 i at hc
      have hx := nth_nonneg hq 0 hn0
      have h6 := hlow q hq
      by_cases e : (q.getD 0 0).toNat = i
      · exact along_first (fun _ => true) h h1 hq rfl (by omega) hc
      · by_cases e2 : (q.getD 0 0).toNat < i
        · have h7 := h5 _ e2
          have h8 : cellV (restsL (fun _ => true) b m rows) 0 i < cellV (restsL (fun _ => true) b m rows) 0 (q.getD 0 0).toNat := h7
          omega
        · rcases hB : beforeL q (pathL b m (restsL (fun _ => true) b m rows) i n) with _ | _
          · rfl
          · exfalso
            obtain ⟨j, g1, g2, g3⟩ := before_split (by rw [(path_in hq).1, pathL_length]) hB
            have hat := pathL_at b m (restsL (fun _ => true) b m rows) i n 0 hn0
            rcases j with _ | j
            · rw [hat] at g3
              have : (colAt b m (restsL (fun _ => true) b m rows) i 0 : Int) = i := rfl
              omega
            · have g4 := g2 0 (by omega)
              rw [hat] at g4
              have : (colAt b m (restsL (fun _ => true) b m rows) i 0 : Int) = i := rfl
              omega

/-- What a turn's search gives: nothing, or a valid path at its cost. -/
theorem turn_spec (mf : Nat → Nat → Bool) (h : TkOk rows b n m) : bestTo mf b m rows m = ([], 50200) ∨ pathE n m (bestTo mf b m rows m).1 = 0 ∧ costF rows b (bestTo mf b m rows m).1 n = (bestTo mf b m rows m).2 := by
  rcases bestTo_spec (b := b) (m := m) mf h.len m with ⟨h1, _⟩ | ⟨i, h1, h2, h3, h4, h5⟩
  · exact .inl h1
  · refine .inr ?_
    rw [h2]
    have hp := along_ok (mf i) h h1
    have hcost := along_cost (mf i) h h1
    have h6 := cost_nonneg h hp
    by_cases hm : mf i ((pathL b m (restsL (mf i) b m rows) i n).getD (n - 1) 0).toNat = true
    · rw [endC_yes hm, Int.add_zero] at hcost
      exact ⟨hp, hcost.symm⟩
    · rw [endC_no hm] at hcost
      omega
theorem turn_least (mf : Nat → Nat → Bool) (h : TkOk rows b n m) {l : List Int} {c : Int} (hb : bestTo (fun _ _ => true) b m rows m = (l, c)) : c ≤ (bestTo mf b m rows m).2 := by
  obtain ⟨_, _, _, h4, h5, _⟩ := best_spec h hb
  rcases turn_spec mf h with h1 | ⟨h1, h2⟩
  · rw [h1]; exact Int.le_of_lt h4
  · have := h5 _ h1; omega
/-- The best path is the best turn with its own pitch. -/
theorem turn_own (mf : Nat → Nat → Bool) (h : TkOk rows b n m) {l : List Int} {c : Int} (hb : bestTo (fun _ _ => true) b m rows m = (l, c)) (hm : mf (l.getD 0 0).toNat (l.getD (n - 1) 0).toNat = true) : bestTo mf b m rows m = (l, c) := by
  obtain ⟨h1, h2, h3, h4, h5, h6⟩ := best_spec h hb
  have hm0 := h.m0
  have hn0 := h.n0
  have hx := nth_nonneg h1 0 hn0
  have hl := rest_least (mf (l.getD 0 0).toNat) h h1 hm
  rcases bestTo_spec (b := b) (m := m) mf h.len m with ⟨g1, g2⟩ | ⟨i, g1, g2, g3, g4, g5⟩
  · have := g2 _ hx.2; omega
  · have ht := turn_spec mf h
    rw [g2] at ht ⊢
    rcases ht with ht | ⟨t1, t2⟩
    · have := congrArg Prod.snd ht
      dsimp only at this
      omega
    · dsimp only at t1 t2
      have t3 := h5 _ t1
      have t4 := g4 _ hx.2
      have t5 : cellV (restsL (mf i) b m rows) 0 i = c := by omega
      have hat := pathL_at b m (restsL (mf i) b m rows) i n 0 hn0
      have hat2 : (colAt b m (restsL (mf i) b m rows) i 0 : Int) = i := rfl
      have hlen : (pathL b m (restsL (mf i) b m rows) i n).length = l.length := by rw [pathL_length, (path_in h1).1]
      have t6 := h6 _ t1 (by omega)
      by_cases e : (l.getD 0 0).toNat = i
      · have t7 := along_first (mf i) h g1 h1 (by rw [← e]; exact hm) (by omega) (by omega)
        rw [before_tri hlen t6 t7, t5]
      · by_cases e2 : (l.getD 0 0).toNat < i
        · have := g5 _ e2; omega
        · exfalso
          have := before_head hlen (by rw [pathL_length]; exact hn0) (by rw [hat]; omega)
          rw [this] at t6
          exact absurd t6 (by decide)
end Best

end Go.Proofs.YtofdjapbofagiaaDoor

namespace Go.Proofs.YtofdjapbofagiaaDoor
open Go.RowKit

/-- The greatest prices, row by row. -/
def prRow (rows : List (List Int)) (b : Int) (m : Nat) (p : List (List Int)) (k : Nat) : List Int := (List.range m).map (mpF rows b m p k)
def prTo (rows : List (List Int)) (b : Int) (m : Nat) : Nat → List (List Int)
  | 0 => []
  | k + 1 => prTo rows b m k ++ [prRow rows b m (prTo rows b m k) k]
section Prices
variable {rows : List (List Int)} {b : Int} {n m : Nat}
theorem prRow_length (p : List (List Int)) (k : Nat) : (prRow rows b m p k).length = m := by simp [prRow]
theorem prTo_length : ∀ k, (prTo rows b m k).length = k
  | 0 => rfl
  | k + 1 => by show (prTo rows b m k ++ [_]).length = _; rw [List.length_append, prTo_length k]; rfl
theorem getD_front {α : Type} (l r : List α) (j : Nat) (d : α) (h : j < l.length) : (l ++ r).getD j d = l.getD j d := by
  simp [List.getD_eq_getElem?_getD, List.getElem?_append_left h]
theorem getD_end {α : Type} (l : List α) (x d : α) (j : Nat) (h : j = l.length) : (l ++ [x]).getD j d = x := by
  subst h; simp [List.getD_eq_getElem?_getD]
theorem prTo_at : ∀ (k j : Nat), j < k → (prTo rows b m k).getD j [] = prRow rows b m (prTo rows b m j) j
  | 0, j, h => by omega
  | k + 1, j, h => by
    show (prTo rows b m k ++ [prRow rows b m (prTo rows b m k) k]).getD j [] = _
    by_cases e : j = k
    · subst e; exact getD_end _ _ _ _ (prTo_length _).symm
    · rw [getD_front _ _ _ _ (by rw [prTo_length]; omega)]
      exact prTo_at k j (by omega)
theorem mpF_congr {p p' : List (List Int)} {r c : Nat} (h : r ≠ 0 → p.getD (r - 1) [] = p'.getD (r - 1) []) : mpF rows b m p r c = mpF rows b m p' r c := by
  unfold mpF
  by_cases e : r = 0
  · rw [if_pos e, if_pos e]
  · rw [if_neg e, if_neg e, h e]
theorem mpF_prTo (k j c : Nat) (h : j ≤ k) : mpF rows b m (prTo rows b m k) j c = mpF rows b m (prTo rows b m j) j c :=
  mpF_congr fun hj => by rw [prTo_at k (j - 1) (by omega), prTo_at j (j - 1) (by omega)]
theorem cell_prTo (k j c : Nat) (h : j < k) (hc : c < m) : cellV (prTo rows b m k) j c = mpF rows b m (prTo rows b m k) j c := by
  rw [mpF_prTo k j c (by omega)]
  unfold cellV
  rw [prTo_at k j h]
  exact getD_mapRange _ _ _ hc
theorem prTo_bd (h : TkOk rows b n m) (k : Nat) : ∀ j, j < k → k ≤ n → ∀ x ∈ (prTo rows b m k).getD j [], 0 ≤ x ∧ x ≤ 1255 * ((j : Int) + 1) := by
  intro j
  induction j with
  | zero =>
    intro hj hk x hx
    rw [prTo_at k 0 hj] at hx
    simp only [prRow, List.mem_map, List.mem_range] at hx
    obtain ⟨c, hc, rfl⟩ := hx
    have hr := h.row _ (getD_in rows 0 [] (by rw [h.len]; omega))
    have h1 := hr.2 _ (getD_in _ c 0 (by rw [hr.1]; exact hc))
    unfold mpF cellV
    rw [if_pos rfl]
    omega
  | succ j ih =>
    intro hj hk x hx
    have ih' := ih (by omega) hk
    have hn40 := h.n40
    have hbb := h.bb
    have hx' := hx
    rw [prTo_at k (j + 1) hj] at hx
    simp only [prRow, List.mem_map, List.mem_range] at hx
    obtain ⟨c, hc, e⟩ := hx
    have hr := h.row _ (getD_in rows (j + 1) [] (by rw [h.len]; omega))
    have h1 := hr.2 _ (getD_in _ c 0 (by rw [hr.1]; exact hc))
    have hl : ((prTo rows b m k).getD j []).length = m := by rw [prTo_at k j (by omega), prRow_length]
    have h2 := chp_spec _ b (1255 * ((j : Int) + 1)) c m hc hl hbb.1 (by omega) ih'
    rw [← mpF_prTo k (j + 1) c (by omega)] at e
    unfold mpF cellV at e
    rw [if_neg (by omega), Nat.add_sub_cancel] at e
    omega
theorem prTo_row (h : TkOk rows b n m) (k : Nat) (hk : k ≤ n) (j : Nat) (hj : j < k) : ((prTo rows b m k).getD j []).length = m ∧ ∀ x ∈ (prTo rows b m k).getD j [], 0 ≤ x ∧ x ≤ 100000 := by
  refine ⟨by rw [prTo_at k j hj, prRow_length], fun x hx => ?_⟩
  have h1 := prTo_bd h k j hj hk x hx
  have hn40 := h.n40
  omega
theorem rowsE_of {cols : Nat} {lo hi : Int} : ∀ {p : List (List Int)}, (∀ r ∈ p, r.length = cols ∧ ∀ x ∈ r, lo ≤ x ∧ x ≤ hi) → rowsE cols lo hi p = 0
  | [], _ => rfl
  | r :: p, h => by
    have h1 := h r (by simp)
    have h2 : rowE cols lo hi r = 0 := by
      unfold rowE fromB
      rw [if_pos h1.1, if_pos (List.all_eq_true.2 fun x hx => by have := h1.2 x hx; simp [this.1, this.2])]
    unfold rowsE
    rw [if_pos h2]
    exact rowsE_of fun r hr => h r (by simp [hr])
theorem mem_getD {α : Type} (l : List α) (d : α) {x : α} (h : x ∈ l) : ∃ j, j < l.length ∧ l.getD j d = x := by
  obtain ⟨j, hj, e⟩ := List.getElem_of_mem h
  exact ⟨j, hj, by rw [List.getD_eq_getElem?_getD, List.getElem?_eq_getElem hj]; exact e⟩
/-- The greatest prices are accepted. -/
theorem prTo_ok (h : TkOk rows b n m) : pricesE rows b n m (prTo rows b m n) = 0 := by
  unfold pricesE
  rw [if_pos (prTo_length n), if_pos (rowsE_of fun r hr => by
    obtain ⟨j, hj, rfl⟩ := mem_getD _ [] hr
    rw [prTo_length] at hj
    have := prTo_row h n (Nat.le_refl _) j hj
    exact ⟨this.1, fun x hx => by have := this.2 x hx; omega⟩)]
  refine firstF_all fun j hj => firstF_all fun c hc => ?_
  unfold cellF
  rw [cell_prTo n j c hj hc, if_neg (Int.lt_irrefl _)]

theorem costF_congr {p q : List Int} : ∀ k, (∀ i, i < k → p.getD i 0 = q.getD i 0) → costF rows b p k = costF rows b q k
  | 0, _ => rfl
  | k + 1, h => by
    have ih := costF_congr k (fun i hi => h i (by omega))
    show costF rows b p k + valAt rows p k + bendAt b p k = costF rows b q k + valAt rows q k + bendAt b q k
    rw [ih]
    unfold valAt bendAt
    rw [h k (by omega)]
    by_cases e : k = 0
    · rw [if_pos e, if_pos e]
    · rw [if_neg e, if_neg e, h (k - 1) (by omega)]
/-- A path that costs what the price says. -/
theorem back_path (h : TkOk rows b n m) : ∀ (k t : Nat), k < n → t < m → ∃ q, pathE (k + 1) m q = 0 ∧ q.getD k 0 = (t : Int) ∧ costF rows b q (k + 1) = cellV (prTo rows b m n) k t
  | 0, t, hk, ht => by
    refine ⟨[(t : Int)], path_of rfl (fun j hj => ?_) (fun j hj => by omega), rfl, ?_⟩
    · obtain rfl : j = 0 := by omega
      show 0 ≤ (t : Int) ∧ (t : Int) ≤ _
      omega
    · rw [cell_prTo n 0 t hk ht]
      unfold mpF
      rw [if_pos rfl]
      show 0 + valAt rows [(t : Int)] 0 + bendAt b [(t : Int)] 0 = _
      rw [bendAt_zero]
      show 0 + cellV rows 0 ((t : Int)).toNat + 0 = _
      rw [Int.toNat_natCast]
      omega
  | k + 1, t, hk, ht => by
    have hrow := prTo_row h n (Nat.le_refl _) k (by omega)
    have hs := chp_spec _ b 100000 t m ht hrow.1 h.bb.1 (by have := h.bb; omega) hrow.2
    obtain ⟨x, hx⟩ : ∃ x, (chp ((prTo rows b m n).getD k []) b t m).1 = x := ⟨_, rfl⟩
    rw [hx] at hs
    have hnr := nbrs_near ht hs.1
    obtain ⟨q, q1, q2, q3⟩ := back_path h k x.toNat (by omega) (by omega)
    have hql := (path_in q1).1
    have hfr : ∀ i, i < k + 1 → (q ++ [(t : Int)]).getD i 0 = q.getD i 0 := fun i hi => getD_front _ _ _ _ (by omega)
    have hen : (q ++ [(t : Int)]).getD (k + 1) 0 = (t : Int) := getD_end _ _ _ _ hql.symm
    refine ⟨q ++ [(t : Int)], path_of (by simp [hql]) (fun j hj => ?_) (fun j hj => ?_), hen, ?_⟩
    · by_cases e : j = k + 1
      · subst e; rw [hen]; omega
      · rw [hfr j (by omega)]; exact (path_in q1).2 j (by omega)
    · by_cases e : j = k
      · subst e; rw [hen, hfr j (by omega), q2]; omega
      · rw [hfr j (by omega), hfr (j + 1) (by omega)]; exact path_near q1 j (by omega)
    · show costF rows b (q ++ [(t : Int)]) (k + 1) + valAt rows (q ++ [(t : Int)]) (k + 1) + bendAt b (q ++ [(t : Int)]) (k + 1) = _
      rw [costF_congr (k + 1) hfr, q3, bendAt_succ, hfr k (by omega), hen, q2, cell_prTo n (k + 1) t hk ht]
      unfold mpF valAt
      rw [if_neg (show ¬ k + 1 = 0 by omega), Nat.add_sub_cancel, hen, hs.2.1, Int.toNat_natCast]
      unfold chSum cellV
      have e1 : (if x = (t : Int) then (0 : Int) else b) = if ((x.toNat : Nat) : Int) = (t : Int) then 0 else b := by rw [show ((x.toNat : Nat) : Int) = x by omega]
      rw [e1]
      omega
theorem minK_at (xs : List Int) : ∀ k, ∃ t, t < k + 1 ∧ minK xs (k + 1) = xs.getD t 0
  | 0 => ⟨0, by omega, minK_one xs⟩
  | k + 1 => by
    obtain ⟨t, h1, h2⟩ := minK_at xs k
    show ∃ t, t < k + 2 ∧ min (minK xs (k + 1)) (xs.getD (k + 1) 0) = _
    by_cases e : minK xs (k + 1) ≤ xs.getD (k + 1) 0
    · exact ⟨t, by omega, by rw [Int.min_eq_left e, h2]⟩
    · exact ⟨k + 1, by omega, Int.min_eq_right (by omega)⟩
/-- The bound of the greatest prices is the cost of the best path. -/
theorem prTo_bound (h : TkOk rows b n m) {l : List Int} {c : Int} (hb : bestTo (fun _ _ => true) b m rows m = (l, c)) : boundF (prTo rows b m n) = c := by
  obtain ⟨h1, h2, h3, h4, h5, h6⟩ := best_spec h hb
  have hn0 := h.n0
  have hm0 := h.m0
  have hle := bound_le hn0 h.bb (prTo_ok h) h1
  have hrow := prTo_row h n (Nat.le_refl _) (n - 1) (by omega)
  obtain ⟨t, t1, t2⟩ := minK_at ((prTo rows b m n).getD (n - 1) []) (m - 1)
  rw [show m - 1 + 1 = m by omega] at t1 t2
  have e : boundF (prTo rows b m n) = cellV (prTo rows b m n) (n - 1) t := by
    unfold boundF
    rw [prTo_length, hrow.1, t2]
    rfl
  obtain ⟨q, q1, _, q3⟩ := back_path h (n - 1) t (by omega) t1
  rw [show n - 1 + 1 = n by omega] at q1 q3
  have := h5 q q1
  omega
end Prices

end Go.Proofs.YtofdjapbofagiaaDoor

namespace Go.Proofs.YtofdjapbofagiaaDoor
open Go.RowKit

set_option maxRecDepth 100000 in
set_option maxHeartbeats 4000000 in
/-- The greatest that a price may be, of prices whose row before is there. -/
theorem maxPrice_at (ad : Addr) (n c m : Nat) (rows : List (List Int)) (b : Int) (pd : Addr) (cp : Nat) (p : List (List Int)) (r k : Nat) (w : World) (hr : RdG w (some ad) n rows) (hp : r ≠ 0 → ∃ Bq cq, w.cell? (pd.add (r - 1)) = some (.slice Bq m cq) ∧ RdI w Bq m (p.getD (r - 1) []) ∧ ∀ x ∈ p.getD (r - 1) [], -1000000 ≤ x ∧ x ≤ 1000000) (hn : n ≤ 1000000) (hm : m ≤ 1000000) (hrn : r < n) (hkm : k < m) (hbb : 0 ≤ b ∧ b ≤ 1000)
    (hg : ∀ r ∈ rows, r.length = m ∧ ∀ x ∈ r, 0 ≤ x ∧ x ≤ 255) :
    Calls Tryd.prog 63 #[.agg #[.slice (some ad) n c, .int .i64 b, .int .i64 m], .slice (some pd) n cp, .int .i64 (r : Int), .int .i64 (k : Int)] w fun e w' => e = .returned (.int .i64 (mpF rows b m p r k)) ∧ Below w.heap.size w w' := by
  have hb0 : Below w.heap.size w (w.alloc (.cells #[.slice (some ad) n c, .int .i64 b, .int .i64 m] 105)) := (Below.refl _ _).alloc (Nat.le_refl _) _
  have HR1 := Lib.hid (hr.below hb0)
  have HP1 : Hid (r ≠ 0 → ∃ Bq cq, (w.alloc (.cells #[.slice (some ad) n c, .int .i64 b, .int .i64 m] 105)).cell? (pd.add (r - 1)) = some (.slice Bq m cq) ∧ RdI (w.alloc (.cells #[.slice (some ad) n c, .int .i64 b, .int .i64 m] 105)) Bq m (p.getD (r - 1) []) ∧ ∀ x ∈ p.getD (r - 1) [], -1000000 ≤ x ∧ x ≤ 1000000) := fun h0 => by
    obtain ⟨Bq, cq, h1, h2, h3⟩ := hp h0
    exact ⟨Bq, cq, (hb0.cell (World.block_lt_of_cell? _ _ h1)).trans h1, h2.below hb0, h3⟩
  have HB0 := Lib.hid hb0
  have HN := Lib.hid (Bk.new w 105 #[.slice (some ad) n c, .int .i64 b, .int .i64 m])
  have hrI : (r : Int) < (n : Int) := by omega
  have hr0 : (0 : Int) ≤ (r : Int) := by omega
  have hkI : (k : Int) < (m : Int) := by omega
  have hk0 : (0 : Int) ≤ (k : Int) := by omega
  obtain ⟨W1, hW1⟩ : ∃ W, w.alloc (.cells #[.slice (some ad) n c, .int .i64 b, .int .i64 m] 105) = W := ⟨_, rfl⟩
  obtain ⟨g, hgw⟩ : ∃ g, w.heap.size = g := ⟨_, rfl⟩
  rw [hW1] at HR1 HP1 HB0 HN
  rw [hgw] at HN
  have n0 : W1.cell? ⟨g, 0, none⟩ = some (.slice (some ad) n c) := by rw [HN.out.cell]; rfl
  have n1 : W1.cell? ⟨g, 1, none⟩ = some (.int .i64 b) := by rw [HN.out.cell]; rfl
  have n2 : W1.cell? ⟨g, 2, none⟩ = some (.int .i64 m) := by rw [HN.out.cell]; rfl
  obtain ⟨bd, cb, r1, r2, hv0, hv1, _, _⟩ := grid_at HR1.out hg r k hrn hkm
  obtain ⟨v, hve⟩ : ∃ v, (rows.getD r []).getD k 0 = v := ⟨_, rfl⟩
  have HV : Hid (cellV rows r k = v) := hve
  rw [hve] at r2 hv0 hv1
  have HGW := Lib.hid hgw
  clear hr hp hb0 hg hve
  by_cases h0 : r = 0
  · have HM : Hid (mpF rows b m p r k = v) := by show _ = _; unfold mpF; rw [if_pos h0, HV.out]; omega
    have hq : ((r : Int) == 0) = true := by rw [h0]; rfl
    have hq2 : (r == 0) = true := by rw [h0]; rfl
    rw [HM.out]
    have hr00 : r = 0 := h0
    subst hr00
    rw [addZ] at r1
    go_enter Tryd.func63, Tryd.ntmps63
    try simp only [hgw]
    go_wp2
    go_ret
    first | exact ⟨rfl, HB0.out⟩ | (rw [← HGW.out]; exact ⟨rfl, HB0.out⟩)
  · obtain ⟨q, hq⟩ : ∃ q, r = q + 1 := ⟨r - 1, by omega⟩
    obtain ⟨Bq, cq, hck, hrow, hpb⟩ := HP1.out h0
    rw [show r - 1 = q by omega] at hck hrow hpb
    have hpq : (p.getD q []).length = m ∧ ∀ x ∈ p.getD q [], -1000000 ≤ x ∧ x ≤ 1000000 := ⟨hrow.1, hpb⟩
    have hl := chp_least (p.getD q []) b 1000000 k m hkm hpq.1 hbb.1 (by omega) hpq.2
    obtain ⟨z1, z2, hz⟩ : ∃ z1 z2, chp (p.getD q []) b k m = (z1, z2) := ⟨_, _, rfl⟩
    have HM : Hid (mpF rows b m p r k = v + z2) := by
      show _ = _
      unfold mpF
      rw [if_neg h0, HV.out, show r - 1 = q by omega, hz]
    rw [hz] at hl
    have hzb : -1000000 ≤ z2 ∧ z2 ≤ 1001000 := by have := hl.2; dsimp only at this; omega
    have CC : Hid (∀ W', (fun w' : World => w'.cell? ⟨g, 0, none⟩ = some (.slice (some ad) n c) ∧ w'.cell? ⟨g, 1, none⟩ = some (.int .i64 b) ∧ w'.cell? ⟨g, 2, none⟩ = some (.int .i64 m) ∧ w'.cell? (pd.add q) = some (.slice Bq m cq) ∧ Below W1.heap.size W1 w') W' → Calls Tryd.prog 80 #[.agg #[.slice (some ad) n c, .int .i64 b, .int .i64 m], .slice Bq m cq, .int .i64 (k : Int)] W' fun e w' => e = .returned (.tuple #[.int .i64 z1, .int .i64 z2]) ∧ (fun w' : World => w'.cell? ⟨g, 0, none⟩ = some (.slice (some ad) n c) ∧ w'.cell? ⟨g, 1, none⟩ = some (.int .i64 b) ∧ w'.cell? ⟨g, 2, none⟩ = some (.int .i64 m) ∧ w'.cell? (pd.add q) = some (.slice Bq m cq) ∧ Below W1.heap.size W1 w') w') := by
      rintro W' ⟨g1, g2, g3, g4, g5⟩
      have h := cheapest_neg (.slice (some ad) n c) b m k Bq cq (p.getD q []) W' hkm hm (hrow.below g5) ⟨hbb.1, by omega⟩ (fun x hx => by have := hpq.2 x hx; omega)
      rw [hz] at h
      refine h.mono ?_
      rintro e w' ⟨he, hb⟩
      exact ⟨he, (hb.cell (World.block_lt_of_cell? _ _ g1)).trans g1, (hb.cell (World.block_lt_of_cell? _ _ g2)).trans g2, (hb.cell (World.block_lt_of_cell? _ _ g3)).trans g3, (hb.cell (World.block_lt_of_cell? _ _ g4)).trans g4, g5.trans (hb.mono g5.size)⟩
    have HS0 : Hid ((fun w' : World => w'.cell? ⟨g, 0, none⟩ = some (.slice (some ad) n c) ∧ w'.cell? ⟨g, 1, none⟩ = some (.int .i64 b) ∧ w'.cell? ⟨g, 2, none⟩ = some (.int .i64 m) ∧ w'.cell? (pd.add q) = some (.slice Bq m cq) ∧ Below W1.heap.size W1 w') W1.drew) := ⟨n0, n1, n2, hck, (Below.refl _ _).drew⟩
    have hz1 : IntKind.i64.wrap ((r : Int) - 1) = (q : Int) := by rw [show (r : Int) - 1 = (q : Int) by omega]; exact IntWalk.i64_in _ (by omega)
    have hz3 : (0 : Int) ≤ (q : Int) := by omega
    have hz4 : (q : Int) < (n : Int) := by omega
    have hrq : ((r : Int) == 0) = false := by rw [beq_eq_false_iff_ne]; omega
    rw [HM.out]
    clear hq hrow hpb hpq hl hz hck h0
    go_enter Tryd.func63, Tryd.ntmps63
    try simp only [hgw]
    go_wp2
    clear hW1
    refine wp_region_held_drew (S := (fun w' : World => w'.cell? ⟨g, 0, none⟩ = some (.slice (some ad) n c) ∧ w'.cell? ⟨g, 1, none⟩ = some (.int .i64 b) ∧ w'.cell? ⟨g, 2, none⟩ = some (.int .i64 m) ∧ w'.cell? (pd.add q) = some (.slice Bq m cq) ∧ Below W1.heap.size W1 w')) (by kernel_rfl) ?_ ?_
    · first | exact hs2 | exact HS0.out
    intro hHeld
    refine wpAnyH_take (i := 0) (v := ?_) rfl (by kernel_rfl) (by kernel_rfl) (by kernel_rfl) (fun _ _ _ h => h) (Or.inl ⟨by rfl, ?_⟩) (by assumption) ?_
    rotate_left
    · intro w hSw; (try dsimp only at hSw); go_simp; (try (with_reducible rfl))
    try simp only [List.getElem_toArray, List.getElem_cons_succ, List.getElem_cons_zero, Act.put, List.setIfInBounds_toArray, List.set_cons_zero, List.set_cons_succ]
    refine wpAnyH_take (i := 1) (v := ?_) rfl (by kernel_rfl) (by kernel_rfl) (by kernel_rfl) (fun _ _ _ h => h) (Or.inl ⟨by rfl, ?_⟩) (by assumption) ?_
    rotate_left
    · intro w hSw; (try dsimp only at hSw); go_simp; (try (with_reducible rfl))
    try simp only [List.getElem_toArray, List.getElem_cons_succ, List.getElem_cons_zero, Act.put, List.setIfInBounds_toArray, List.set_cons_zero, List.set_cons_succ]
    refine wpAnyH_take (i := 2) (v := ?_) rfl (by kernel_rfl) (by kernel_rfl) (by kernel_rfl) (fun _ _ _ h => h) (Or.inl ⟨by rfl, ?_⟩) (by assumption) ?_
    rotate_left
    · intro w hSw; (try dsimp only at hSw); go_simp; (try (with_reducible rfl))
    try simp only [List.getElem_toArray, List.getElem_cons_succ, List.getElem_cons_zero, Act.put, List.setIfInBounds_toArray, List.set_cons_zero, List.set_cons_succ]
    refine wpAnyH_take (i := 3) (v := ?_) rfl (by kernel_rfl) (by kernel_rfl) (by kernel_rfl) (fun _ _ _ h => h) (Or.inl ⟨by rfl, ?_⟩) (by assumption) ?_
    rotate_left
    · intro w hSw; (try dsimp only at hSw); go_simp; (try (with_reducible rfl))
    try simp only [List.getElem_toArray, List.getElem_cons_succ, List.getElem_cons_zero, Act.put, List.setIfInBounds_toArray, List.set_cons_zero, List.set_cons_succ]
    refine wpAnyH_take (i := 4) (v := ?_) rfl (by kernel_rfl) (by kernel_rfl) (by kernel_rfl) (fun _ _ _ h => h) (Or.inl ⟨by rfl, ?_⟩) (by assumption) ?_
    rotate_left
    · intro w hSw; (try dsimp only at hSw); go_simp; (try (with_reducible rfl))
    try simp only [List.getElem_toArray, List.getElem_cons_succ, List.getElem_cons_zero, Act.put, List.setIfInBounds_toArray, List.set_cons_zero, List.set_cons_succ]
    refine wpAnyH_take (i := 5) (v := ?_) rfl (by kernel_rfl) (by kernel_rfl) (by kernel_rfl) (fun _ _ _ h => h) (Or.inl ⟨by rfl, ?_⟩) (by assumption) ?_
    rotate_left
    · intro w hSw; (try dsimp only at hSw); go_simp; (try (with_reducible rfl))
    try simp only [List.getElem_toArray, List.getElem_cons_succ, List.getElem_cons_zero, Act.put, List.setIfInBounds_toArray, List.set_cons_zero, List.set_cons_succ]
    refine wpAnyH_take (i := 6) (v := ?_) rfl (by kernel_rfl) (by kernel_rfl) (by kernel_rfl) (fun _ _ _ h => h) (Or.inl ⟨by rfl, ?_⟩) (by assumption) ?_
    rotate_left
    · intro w hSw; (try dsimp only at hSw); go_simp; (try (with_reducible rfl))
    try simp only [List.getElem_toArray, List.getElem_cons_succ, List.getElem_cons_zero, Act.put, List.setIfInBounds_toArray, List.set_cons_zero, List.set_cons_succ]
    refine wpAnyH_ready (rs := [7]) (by kernel_rfl) (by simp) ?_
    refine AllReadyH.cons rfl (fun K hK => ?_) AllReadyH.nil
    go_simp
    go_at_call 80; refine (CC.out _ hHeld).mono ?_; rintro e w2 ⟨rfl, hs2⟩
    go_wp2_with fail
    refine hK.out _ _ ?_ (fun hHeld => ?_)
    · clear hK K; first | exact hs2 | exact HS0.out
    clear hK K
    try simp only [List.getElem_toArray, List.getElem_cons_succ, List.getElem_cons_zero, Act.put, List.setIfInBounds_toArray, List.set_cons_zero, List.set_cons_succ]
    refine wpAnyH_take (i := 8) (v := ?_) rfl (by kernel_rfl) (by kernel_rfl) (by kernel_rfl) (fun _ _ _ h => h) (Or.inl ⟨by rfl, ?_⟩) (by assumption) ?_
    rotate_left
    · intro w hSw; (try dsimp only at hSw); go_simp; (try (with_reducible rfl))
    try simp only [List.getElem_toArray, List.getElem_cons_succ, List.getElem_cons_zero, Act.put, List.setIfInBounds_toArray, List.set_cons_zero, List.set_cons_succ]
    refine wpAnyH_take (i := 9) (v := ?_) rfl (by kernel_rfl) (by kernel_rfl) (by kernel_rfl) (fun _ _ _ h => h) (Or.inl ⟨by rfl, ?_⟩) (by assumption) ?_
    rotate_left
    · intro w hSw; (try dsimp only at hSw); go_simp; (try (with_reducible rfl))
    try simp only [List.getElem_toArray, List.getElem_cons_succ, List.getElem_cons_zero, Act.put, List.setIfInBounds_toArray, List.set_cons_zero, List.set_cons_succ]
    refine wpAnyH_take (i := 10) (v := ?_) rfl (by kernel_rfl) (by kernel_rfl) (by kernel_rfl) (fun _ _ _ h => h) (Or.inl ⟨by rfl, ?_⟩) (by assumption) ?_
    rotate_left
    · intro w hSw; (try dsimp only at hSw); go_simp; (try (with_reducible rfl))
    try simp only [List.getElem_toArray, List.getElem_cons_succ, List.getElem_cons_zero, Act.put, List.setIfInBounds_toArray, List.set_cons_zero, List.set_cons_succ]
    refine wpAnyH_take (i := 11) (v := ?_) rfl (by kernel_rfl) (by kernel_rfl) (by kernel_rfl) (fun _ _ _ h => h) (Or.inl ⟨by rfl, ?_⟩) (by assumption) ?_
    rotate_left
    · intro w hSw; (try dsimp only at hSw); go_simp; (try (with_reducible rfl))
    try simp only [List.getElem_toArray, List.getElem_cons_succ, List.getElem_cons_zero, Act.put, List.setIfInBounds_toArray, List.set_cons_zero, List.set_cons_succ]
    refine wpAnyH_take (i := 12) (v := ?_) rfl (by kernel_rfl) (by kernel_rfl) (by kernel_rfl) (fun _ _ _ h => h) (Or.inl ⟨by rfl, ?_⟩) (by assumption) ?_
    rotate_left
    · intro w hSw; (try dsimp only at hSw); go_simp; (try (with_reducible rfl))
    try simp only [List.getElem_toArray, List.getElem_cons_succ, List.getElem_cons_zero, Act.put, List.setIfInBounds_toArray, List.set_cons_zero, List.set_cons_succ]
    refine wpAnyH_done (by kernel_rfl) ?_ _
    obtain ⟨_, _, _, _, hbl⟩ := hHeld
    have HBL := Lib.hid hbl
    clear hbl HS0 CC hz1 hs2 n0 n1 n2 r1 r2
    go_wp2
    go_ret
    rw [← HGW.out]
    exact ⟨rfl, HB0.out.trans (HBL.out.mono HB0.out.size)⟩

end Go.Proofs.YtofdjapbofagiaaDoor

namespace Go.Proofs.YtofdjapbofagiaaDoor
open Go.RowKit

/-- Before row k, the cells of block B hold slices of whole blocks that lie between B and N and hold the rows of X. -/
def RowsLt (B cols : Nat) (X : List (List Int)) (k N : Nat) (W : World) : Prop :=
  ∀ j, j < k → ∃ g, W.cell? ⟨B, j, none⟩ = some (.slice (some ⟨g, 0, none⟩) cols cols) ∧ B < g ∧ g < N ∧ Bk W g 3 (iArr (X.getD j []))
def PrI (w : World) (A : Option Addr) (n c cols : Nat) (b : Int) (X : List (List Int)) (k : Nat) (wr : World) : Prop :=
  (∃ cur, Bk wr (w.heap.size + 1) 38 cur ∧ cur.size = n) ∧ RowsLt (w.heap.size + 1) cols X k wr.heap.size wr ∧ Bk wr w.heap.size 105 #[.slice A n c, .int .i64 b, .int .i64 cols] ∧ Below w.heap.size w wr
def PrJ (w : World) (A : Option Addr) (n c cols : Nat) (b : Int) (X : List (List Int)) (j C q : Nat) (wr : World) : Prop :=
  Bk wr C 3 (iArr (padR (X.getD j []) q cols)) ∧ (∃ cur, Bk wr (w.heap.size + 1) 38 cur ∧ cur.size = n ∧ cur[j]? = some (.slice (some ⟨C, 0, none⟩) cols cols)) ∧ RowsLt (w.heap.size + 1) cols X j C wr ∧ Bk wr w.heap.size 105 #[.slice A n c, .int .i64 b, .int .i64 cols] ∧ Below w.heap.size w wr ∧ w.heap.size + 1 < C
theorem RowsLt.keep {B cols : Nat} {X : List (List Int)} {k N N' : Nat} {W W' : World} (h : RowsLt B cols X k N W) (hN : N ≤ N') (hc : ∀ j, j < k → W'.cell? ⟨B, j, none⟩ = W.cell? ⟨B, j, none⟩) (hg : ∀ g, B < g → g < N → W'.heap[g]? = W.heap[g]?) : RowsLt B cols X k N' W' := by
  intro j hj
  obtain ⟨g, h1, h2, h3, h4⟩ := h j hj
  exact ⟨g, (hc j hj).trans h1, h2, by omega, (hg g h2 h3).trans h4⟩
theorem PrJ.lt {w : World} {A : Option Addr} {n c cols : Nat} {b : Int} {X : List (List Int)} {j C q : Nat} {wr : World} (h : PrJ w A n c cols b X j C q wr) : C < wr.heap.size := h.1.lt
theorem PrJ.step {w : World} {A : Option Addr} {n c cols : Nat} {b : Int} {X : List (List Int)} {j C q : Nat} {wr w' : World} {x : Int} (h : PrJ w A n c cols b X j C q wr) (hb : Below wr.heap.size wr w') (hx : (X.getD j []).getD q 0 = x) :
    PrJ w A n c cols b X j C (q + 1) (w'.setCell ⟨C, q, none⟩ (.int .i64 x)) := by
  have hC := h.lt
  obtain ⟨h1, ⟨cur, h2, h3, h4⟩, h5, h6, h7, h8⟩ := h
  have hfar : ∀ g, g ≠ C → g < wr.heap.size → (w'.setCell ⟨C, q, none⟩ (.int .i64 x)).heap[g]? = wr.heap[g]? := fun g hg hlt => (Below.heap_setCell _ _ _ _ hg).trans (hb.block g hlt)
  refine ⟨?_, ⟨cur, (hfar _ (by omega) h2.lt).trans h2, h3, h4⟩, h5.keep (Nat.le_refl _) (fun i _ => ?_) (fun g _ hg => hfar g (by omega) (by omega)), (hfar _ (by omega) h6.lt).trans h6, (h7.trans (hb.mono h7.size)).setCell (p := ⟨C, q, none⟩) (by dsimp only; omega) _, h8⟩
  · have := (h1.later hb).set_ q (.int .i64 x)
    rw [iArr_set, ← hx, padR_set, hx] at this
    exact this
  · have e := hfar (w.heap.size + 1) (by omega) h2.lt
    simp only [World.cell?, e]
theorem PrJ.done_ {w : World} {A : Option Addr} {n c cols : Nat} {b : Int} {X : List (List Int)} {j C : Nat} {wr : World} (h : PrJ w A n c cols b X j C cols wr) (hl : (X.getD j []).length = cols) : PrI w A n c cols b X (j + 1) wr := by
  have hC := h.lt
  obtain ⟨h1, ⟨cur, h2, h3, h4⟩, h5, h6, h7, h8⟩ := h
  refine ⟨⟨cur, h2, h3⟩, fun i hi => ?_, h6, h7⟩
  by_cases e : i = j
  · subst e
    rw [padR_all _ _ hl] at h1
    exact ⟨C, by rw [h2.cell]; exact h4, h8, hC, h1⟩
  · obtain ⟨g, k1, k2, k3, k4⟩ := h5 i (by omega)
    exact ⟨g, k1, k2, by omega, k4⟩
theorem RowsLt.rdGN {B n cols : Nat} {X : List (List Int)} {N : Nat} {W : World} (h : RowsLt B cols X n N W) (hB : B < W.heap.size) (hX : X.length = n) (hl : ∀ j, j < n → (X.getD j []).length = cols) (hcols : cols ≤ 1000) : RdGN W (some ⟨B, 0, none⟩) n X := by
  refine ⟨hX, fun _ => ⟨_, rfl, hB, fun j hj => ?_⟩⟩
  obtain ⟨g, h1, h2, h3, h4⟩ := h j hj
  exact ⟨_, _, _, by rw [addOff]; exact h1, rd_of_bk h4 (hl j hj), by omega, fun e => by cases e⟩
theorem make_prices (c : Nat) (hc : c ≤ 1000000) (W : World) :
    (Instr.makeSlice 78 (.int .i64 (c : Int)) (.int .i64 (c : Int))).run Tryd.prog W = .ok (.slice (some ⟨W.heap.size, 0, none⟩) c c) (W.alloc (.cells (List.replicate c (Value.slice none 0 0)).toArray 38)) := by
  obtain ⟨i0, hi, hz0, hz1, hz2⟩ := info_parts sliceInfo
  have hr := run_make (P := Tryd.prog) W 78 38 i0 _ Tryd.underlying78 hi hz0 .i64 .i64 c c (by omega) (by omega) (by rw [hz2]; omega) (by omega)
  rw [hr]
  have e : madeCells (Value.cells (.slice none 0 0)) ((c : Int).toNat * i0.size) = (List.replicate c (Value.slice none 0 0)).toArray := by
    rw [hz1]
    apply Array.ext'
    have := toList_madeCells_one (Value.slice none 0 0) c
    simp only [Int.toNat_natCast, Nat.mul_one]
    show (madeCells #[Value.slice none 0 0] c).toList = _
    rw [this]
  rw [e, Int.toNat_natCast]

set_option maxRecDepth 100000 in
set_option maxHeartbeats 8000000 in
theorem Prices_ok (A : Option Addr) (n c : Nat) (rows : List (List Int)) (b : Int) (m : Nat) (w : World) (hr : RdG w A n rows) (hn : n ≤ 9223372036854775806) (hE : taskE rows b = 0) (hm : colsOf rows = m) :
    Calls Tryd.prog 37 #[.agg #[.slice A n c, .int .i64 b]] w fun e w' => (∃ A', e = .returned (.tuple #[.slice A' n n, .int .i64 0]) ∧ RdGN w' A' n (prTo rows b m n)) ∧ Below w.heap.size w w' := by
  have hb0 : Below w.heap.size w (w.alloc (.cells #[.slice A n c, .int .i64 b] 53)) := (Below.refl _ w).alloc (Nat.le_refl _) _
  obtain ⟨hg, hbb⟩ := task_ok hE
  obtain ⟨m', g1, g2, g3, g4, g5, g6⟩ := grid_ok hg
  obtain rfl : m = m' := by rw [← g5]; exact hm.symm
  have hln := hr.1
  obtain ⟨ad, rfl, hadb, hc⟩ := hr.2 (by omega)
  obtain ⟨B0, m2, c', hck, hrow, _⟩ := hc 0 (by omega)
  obtain rfl : m = m2 := by rw [← hrow.1]; exact g5.symm
  rw [addZ] at hck
  have CC := Lib.hid (checked_ok ad n c m c' B0 rows b _ (hr.below hb0) hn (Nat.lt_of_lt_of_le hadb hb0.size) ((hb0.cell hadb).trans hck) (by omega) hE)
  have HG := Lib.hid hr
  have HRB := Lib.hid (row_bounds g6)
  have HB0 := Lib.hid hb0
  have hm12 : 0 < m ∧ m ≤ 12 := ⟨g2, g4⟩
  have hn40 : 0 < n ∧ n ≤ 40 := by omega
  have HTK : Hid (TkOk rows b n m) := ⟨hln, hn40.1, hn40.2, g2, g4, row_bounds g6, hbb⟩
  have HLen : Hid (rows.length = n) := hln
  have HBB := Lib.hid hbb
  clear hr hb0 hE hg hc hck hrow g5 g6 hln hm hbb
  obtain ⟨X, hX⟩ : ∃ X, prTo rows b m n = X := ⟨_, rfl⟩
  have HX := Lib.hid hX
  rw [hX]
  clear hX
  have HXL : Hid (X.length = n) := by show _ = _; rw [← HX.out, prTo_length]
  have HXR : Hid (∀ j, j < n → (X.getD j []).length = m ∧ ∀ x ∈ X.getD j [], 0 ≤ x ∧ x ≤ 100000) := fun j hj => by rw [← HX.out]; exact prTo_row HTK.out n (Nat.le_refl _) j hj
  have HXV : Hid (∀ j q, j < n → q < m → (X.getD j []).getD q 0 = mpF rows b m X j q) := fun j q hj hq => by rw [← HX.out]; exact cell_prTo n j q hj hq
  have hmk := make_prices n (by omega)
  have hmi := make_ints m (by omega)
  go_enter Tryd.func37, Tryd.ntmps37
  go_wp2_with fail
  refine CC.out.mono ?_
  rintro e w1 ⟨rfl, hb1⟩
  have HB1 : Hid (Below w.heap.size w w1) := HB0.out.trans (hb1.mono HB0.out.size)
  clear hb1 CC
  have HR1 := Lib.hid (HG.out.below HB1.out)
  have HAB : Hid (ad.block < w1.heap.size) := Nat.lt_of_lt_of_le hadb HB1.out.size
  clear hadb
  go_wp2
  go_loopw [24] (fun i wr => ∃ k : Nat, k ≤ n ∧ i = .int .i64 (k : Int) ∧ Hid (PrI w1 (some ad) n c m b X k wr)) (fun i _ => n - (intOf i).toNat)
  case atStart =>
    refine ⟨0, Nat.zero_le _, rfl, ⟨(List.replicate n (Value.slice none 0 0)).toArray, ?_, by simp⟩, fun j h1 => by omega, (Bk.new w1 _ _).alloc _, ((Below.refl _ w1).alloc (Nat.le_refl _) _).alloc (by simp) _⟩
    have := Bk.new (w1.alloc (.cells #[.slice (some ad) n c, .int .i64 b, .int .i64 m] 105)) 38 (List.replicate n (Value.slice none 0 0)).toArray
    simpa using this
  case round =>
    obtain ⟨k, hk, rfl, HI⟩ := hrel
    by_cases hlt : k < n
    · have hkI : (k : Int) < (n : Int) := by omega
      have hk0 : (0 : Int) ≤ (k : Int) := by omega
      obtain ⟨⟨cur, hB, hcs⟩, hrows, hbox, hbel⟩ := HI.out
      clear HI
      have c0 : wr.cell? ⟨w1.heap.size, 0, none⟩ = some (.slice (some ad) n c) := by rw [hbox.cell]; rfl
      have c1 : wr.cell? ⟨w1.heap.size, 1, none⟩ = some (.int .i64 b) := by rw [hbox.cell]; rfl
      have c2 : wr.cell? ⟨w1.heap.size, 2, none⟩ = some (.int .i64 m) := by rw [hbox.cell]; rfl
      have hBlt := hB.lt
      have hold : wr.cell? ⟨w1.heap.size + 1, k, none⟩ = some cur[k] := by rw [hB.cell]; exact Array.getElem?_eq_getElem (by omega)
      have hfr : wr.frozen? ⟨w1.heap.size + 1, k, none⟩ = false := hB.frozen k
      obtain ⟨o, ho⟩ : ∃ o, cur[k] = o := ⟨_, rfl⟩
      rw [ho] at hold
      clear ho
      have HI0 : Hid (PrJ w1 (some ad) n c m b X k wr.heap.size 0 ((wr.setCell ⟨w1.heap.size + 1, k, none⟩ (.slice (some ⟨wr.heap.size, 0, none⟩) m m)).alloc (.cells (iArr (List.replicate m 0)) 3))) := by
        have hz : (wr.setCell ⟨w1.heap.size + 1, k, none⟩ (.slice (some ⟨wr.heap.size, 0, none⟩) m m)).heap.size = wr.heap.size := by simp
        have hfar : ∀ g, g ≠ w1.heap.size + 1 → g < wr.heap.size → ((wr.setCell ⟨w1.heap.size + 1, k, none⟩ (.slice (some ⟨wr.heap.size, 0, none⟩) m m)).alloc (.cells (iArr (List.replicate m 0)) 3)).heap[g]? = wr.heap[g]? := fun g hg hlt => (Below.heap_alloc _ _ _ (by rw [hz]; exact hlt)).trans (Below.heap_setCell _ _ _ _ hg)
        refine ⟨?_, ⟨_, (hB.set_ k _).alloc _, by simp [hcs], by rw [Array.getElem?_setIfInBounds, if_pos rfl, if_pos (by omega)]⟩, hrows.keep (Nat.le_refl _) (fun i hi => ?_) (fun g hg hlt => hfar g (by omega) hlt), (hfar _ (by omega) hbox.lt).trans hbox, (hbel.setCell (p := ⟨w1.heap.size + 1, k, none⟩) (by dsimp only; omega) _).alloc (by rw [hz]; exact hbel.size) _, hBlt⟩
        · rw [padR_zero]
          have := Bk.new (wr.setCell ⟨w1.heap.size + 1, k, none⟩ (.slice (some ⟨wr.heap.size, 0, none⟩) m m)) 3 (iArr (List.replicate m 0))
          rw [hz] at this
          exact this
        · rw [World.cell?_alloc_lt _ _ _ (by rw [hz]; exact hBlt)]
          exact World.cell?_setCell_other _ _ _ _ (by intro e; injection e; omega)
      clear hB hrows hbox hbel hcs
      go_upto_region 9 with (fail)
      obtain ⟨W2, hW2⟩ : ∃ W2, ((wr.setCell ⟨w1.heap.size + 1, k, none⟩ (.slice (some ⟨wr.heap.size, 0, none⟩) m m)).alloc (.cells (iArr (List.replicate m 0)) 3)) = W2 := ⟨_, rfl⟩
      rw [hW2] at HI0 ⊢
      clear hW2 c0 c1 c2 hold hfr
      have hcB0 : W2.cell? ⟨w1.heap.size + 1, k, none⟩ = some (.slice (some ⟨wr.heap.size, 0, none⟩) m m) := by
        obtain ⟨cur, h1, _, h3⟩ := HI0.out.2.1
        rw [h1.cell]; exact h3
      obtain ⟨C, hC⟩ : ∃ C, wr.heap.size = C := ⟨_, rfl⟩
      rw [hC] at HI0 hBlt hcB0 ⊢
      clear hC
      go_wp2
      clear hcB0
      go_loopw [38] (fun i wr2 => ∃ q : Nat, q ≤ m ∧ i = .int .i64 (q : Int) ∧ Hid (PrJ w1 (some ad) n c m b X k C q wr2)) (fun i _ => m - (intOf i).toNat)
      case atStart => exact ⟨0, Nat.zero_le _, rfl, HI0.out⟩
      case round =>
        obtain ⟨q, hq, rfl, HI⟩ := hrel
        obtain ⟨wi, hwi⟩ : ∃ W, W = wr := ⟨_, rfl⟩
        subst hwi
        by_cases hqm : q < m
        · have hqI : (q : Int) < (m : Int) := by omega
          have hq0 : (0 : Int) ≤ (q : Int) := by omega
          obtain ⟨cur, hB, hcs, hcj⟩ := HI.out.2.1
          have hcB : wi.cell? ⟨w1.heap.size + 1, k, none⟩ = some (.slice (some ⟨C, 0, none⟩) m m) := by rw [hB.cell]; exact hcj
          have hcC : wi.cell? ⟨C, q, none⟩ = some (.int .i64 ((padR (X.getD k []) q m).getD q 0)) := by rw [HI.out.1.cell]; exact iArr_at _ _ (by rw [padR_length]; exact hqm)
          have hfC : wi.frozen? ⟨C, q, none⟩ = false := HI.out.1.frozen q
          obtain ⟨o, ho⟩ : ∃ o, (padR (X.getD k []) q m).getD q 0 = o := ⟨_, rfl⟩
          rw [ho] at hcC
          obtain ⟨x, hx⟩ : ∃ x, mpF rows b m X k q = x := ⟨_, rfl⟩
          have HXQ : Hid ((X.getD k []).getD q 0 = x) := (HXV.out k q hlt hqm).trans hx
          have d0 : wi.cell? ⟨w1.heap.size, 0, none⟩ = some (.slice (some ad) n c) := by rw [HI.out.2.2.2.1.cell]; rfl
          have d1 : wi.cell? ⟨w1.heap.size, 1, none⟩ = some (.int .i64 b) := by rw [HI.out.2.2.2.1.cell]; rfl
          have d2 : wi.cell? ⟨w1.heap.size, 2, none⟩ = some (.int .i64 m) := by rw [HI.out.2.2.2.1.cell]; rfl
          have hgl : w1.heap.size < wi.heap.size := HI.out.2.2.2.1.lt
          have hgl1 : w1.heap.size + 1 < wi.heap.size := hB.lt
          have hCl : C < wi.heap.size := HI.lt
          have hgC : w1.heap.size + 1 < C := HI.out.2.2.2.2.2
          have CC : Hid (∀ W', Below wi.heap.size wi W' → Calls Tryd.prog 63 #[.agg #[.slice (some ad) n c, .int .i64 b, .int .i64 m], .slice (some ⟨w1.heap.size + 1, 0, none⟩) n n, .int .i64 (k : Int), .int .i64 (q : Int)] W' fun e w' => e = .returned (.int .i64 x) ∧ Below wi.heap.size wi w') := fun W' hW' => by
            have h := maxPrice_at ad n c m rows b ⟨w1.heap.size + 1, 0, none⟩ n X k q W' ((HR1.out.below HI.out.2.2.2.2.1).below hW') (fun hk => by
              obtain ⟨gj, e1, e2, e3, e4⟩ := HI.out.2.2.1 (k - 1) (by omega)
              have hz := HXR.out (k - 1) (by omega)
              exact ⟨some ⟨gj, 0, none⟩, m, by rw [addOff]; exact (hW'.cell (World.block_lt_of_cell? _ _ e1)).trans e1, rd_of_bk (e4.later hW') hz.1, fun y hy => by have := hz.2 y hy; omega⟩) (by omega) (by omega) hlt hqm HBB.out HRB.out
            rw [hx] at h
            refine h.mono ?_
            rintro e w' ⟨he, hb⟩
            exact ⟨he, hW'.trans (hb.mono hW'.size)⟩
          have HS0 : Hid ((fun w' : World => w'.cell? ⟨w1.heap.size, 0, none⟩ = some (.slice (some ad) n c) ∧ w'.cell? ⟨w1.heap.size, 1, none⟩ = some (.int .i64 b) ∧ w'.cell? ⟨w1.heap.size, 2, none⟩ = some (.int .i64 m) ∧ w'.cell? ⟨w1.heap.size + 1, k, none⟩ = some (.slice (some ⟨C, 0, none⟩) m m) ∧ (∃ W2, Below wi.heap.size wi W2 ∧ (w' = W2 ∨ w' = W2.setCell ⟨C, q, none⟩ (.int .i64 x)))) wi.drew) := ⟨d0, d1, d2, hcB, wi.drew, (Below.refl _ _).drew, .inl rfl⟩
          clear hB hcs hcj ho hx
          go_wp2_with fail
          refine wp_region_held_drew (S := (fun w' : World => w'.cell? ⟨w1.heap.size, 0, none⟩ = some (.slice (some ad) n c) ∧ w'.cell? ⟨w1.heap.size, 1, none⟩ = some (.int .i64 b) ∧ w'.cell? ⟨w1.heap.size, 2, none⟩ = some (.int .i64 m) ∧ w'.cell? ⟨w1.heap.size + 1, k, none⟩ = some (.slice (some ⟨C, 0, none⟩) m m) ∧ (∃ W2, Below wi.heap.size wi W2 ∧ (w' = W2 ∨ w' = W2.setCell ⟨C, q, none⟩ (.int .i64 x))))) (by kernel_rfl) ?_ ?_
          · first | exact HS0.out | exact HS2.out | exact HS3.out
          intro hHeld
          refine wpAnyH_take (i := 0) (v := ?_) rfl (by kernel_rfl) (by kernel_rfl) (by kernel_rfl) (fun _ _ _ h => h) (Or.inl ⟨by rfl, ?_⟩) (by assumption) ?_
          rotate_left
          · intro w hSw; (try dsimp only at hSw); go_simp; (try (with_reducible rfl))
          try simp only [List.getElem_toArray, List.getElem_cons_succ, List.getElem_cons_zero, Act.put, List.setIfInBounds_toArray, List.set_cons_zero, List.set_cons_succ]
          refine wpAnyH_take (i := 1) (v := ?_) rfl (by kernel_rfl) (by kernel_rfl) (by kernel_rfl) (fun _ _ _ h => h) (Or.inl ⟨by rfl, ?_⟩) (by assumption) ?_
          rotate_left
          · intro w hSw; (try dsimp only at hSw); go_simp; (try (with_reducible rfl))
          try simp only [List.getElem_toArray, List.getElem_cons_succ, List.getElem_cons_zero, Act.put, List.setIfInBounds_toArray, List.set_cons_zero, List.set_cons_succ]
          refine wpAnyH_take (i := 2) (v := ?_) rfl (by kernel_rfl) (by kernel_rfl) (by kernel_rfl) (fun _ _ _ h => h) (Or.inl ⟨by rfl, ?_⟩) (by assumption) ?_
          rotate_left
          · intro w hSw; (try dsimp only at hSw); go_simp; (try (with_reducible rfl))
          try simp only [List.getElem_toArray, List.getElem_cons_succ, List.getElem_cons_zero, Act.put, List.setIfInBounds_toArray, List.set_cons_zero, List.set_cons_succ]
          refine wpAnyH_take (i := 3) (v := ?_) rfl (by kernel_rfl) (by kernel_rfl) (by kernel_rfl) (fun _ _ _ h => h) (Or.inl ⟨by rfl, ?_⟩) (by assumption) ?_
          rotate_left
          · intro w hSw; (try dsimp only at hSw); go_simp; (try (with_reducible rfl))
          try simp only [List.getElem_toArray, List.getElem_cons_succ, List.getElem_cons_zero, Act.put, List.setIfInBounds_toArray, List.set_cons_zero, List.set_cons_succ]
          refine wpAnyH_take (i := 4) (v := ?_) rfl (by kernel_rfl) (by kernel_rfl) (by kernel_rfl) (fun _ _ _ h => h) (Or.inl ⟨by rfl, ?_⟩) (by assumption) ?_
          rotate_left
          · intro w hSw; (try dsimp only at hSw); go_simp; (try (with_reducible rfl))
          try simp only [List.getElem_toArray, List.getElem_cons_succ, List.getElem_cons_zero, Act.put, List.setIfInBounds_toArray, List.set_cons_zero, List.set_cons_succ]
          refine wpAnyH_take (i := 5) (v := ?_) rfl (by kernel_rfl) (by kernel_rfl) (by kernel_rfl) (fun _ _ _ h => h) (Or.inl ⟨by rfl, ?_⟩) (by assumption) ?_
          rotate_left
          · intro w hSw; (try dsimp only at hSw); go_simp; (try (with_reducible rfl))
          try simp only [List.getElem_toArray, List.getElem_cons_succ, List.getElem_cons_zero, Act.put, List.setIfInBounds_toArray, List.set_cons_zero, List.set_cons_succ]
          refine wpAnyH_take (i := 6) (v := ?_) rfl (by kernel_rfl) (by kernel_rfl) (by kernel_rfl) (fun _ _ _ h => h) (Or.inl ⟨by rfl, ?_⟩) (by assumption) ?_
          rotate_left
          · intro w hSw; (try dsimp only at hSw); go_simp; (try (with_reducible rfl))
          try simp only [List.getElem_toArray, List.getElem_cons_succ, List.getElem_cons_zero, Act.put, List.setIfInBounds_toArray, List.set_cons_zero, List.set_cons_succ]
          refine wpAnyH_take (i := 7) (v := ?_) rfl (by kernel_rfl) (by kernel_rfl) (by kernel_rfl) (fun _ _ _ h => h) (Or.inl ⟨by rfl, ?_⟩) (by assumption) ?_
          rotate_left
          · intro w hSw; (try dsimp only at hSw); go_simp; (try (with_reducible rfl))
          try simp only [List.getElem_toArray, List.getElem_cons_succ, List.getElem_cons_zero, Act.put, List.setIfInBounds_toArray, List.set_cons_zero, List.set_cons_succ]
          refine wpAnyH_take (i := 8) (v := ?_) rfl (by kernel_rfl) (by kernel_rfl) (by kernel_rfl) (fun _ _ _ h => h) (Or.inl ⟨by rfl, ?_⟩) (by assumption) ?_
          rotate_left
          · intro w hSw; (try dsimp only at hSw); go_simp; (try (with_reducible rfl))
          try simp only [List.getElem_toArray, List.getElem_cons_succ, List.getElem_cons_zero, Act.put, List.setIfInBounds_toArray, List.set_cons_zero, List.set_cons_succ]
          refine wpAnyH_ready (rs := [9]) (by kernel_rfl) (by simp) ?_
          refine AllReadyH.cons rfl (fun K hK => ?_) AllReadyH.nil
          go_simp
          go_at_call 63; refine (CC.out _ (Below.refl _ _).drew).mono ?_; rintro e w2 ⟨rfl, hb2⟩
          have HB2 := Lib.hid hb2
          have f0 := (hb2.cell (p := ⟨w1.heap.size, 0, none⟩) hgl).trans d0
          have f1 := (hb2.cell (p := ⟨w1.heap.size, 1, none⟩) hgl).trans d1
          have f2 := (hb2.cell (p := ⟨w1.heap.size, 2, none⟩) hgl).trans d2
          have f3 := (hb2.cell (p := ⟨w1.heap.size + 1, k, none⟩) hgl1).trans hcB
          have f4 := (hb2.cell (p := ⟨C, q, none⟩) hCl).trans hcC
          have f5 := (hb2.frozen (p := ⟨C, q, none⟩) hCl).trans hfC
          have HS2 : Hid ((fun w' : World => w'.cell? ⟨w1.heap.size, 0, none⟩ = some (.slice (some ad) n c) ∧ w'.cell? ⟨w1.heap.size, 1, none⟩ = some (.int .i64 b) ∧ w'.cell? ⟨w1.heap.size, 2, none⟩ = some (.int .i64 m) ∧ w'.cell? ⟨w1.heap.size + 1, k, none⟩ = some (.slice (some ⟨C, 0, none⟩) m m) ∧ (∃ W2, Below wi.heap.size wi W2 ∧ (w' = W2 ∨ w' = W2.setCell ⟨C, q, none⟩ (.int .i64 x)))) w2) := ⟨f0, f1, f2, f3, w2, hb2, .inl rfl⟩
          have HS3 : Hid ((fun w' : World => w'.cell? ⟨w1.heap.size, 0, none⟩ = some (.slice (some ad) n c) ∧ w'.cell? ⟨w1.heap.size, 1, none⟩ = some (.int .i64 b) ∧ w'.cell? ⟨w1.heap.size, 2, none⟩ = some (.int .i64 m) ∧ w'.cell? ⟨w1.heap.size + 1, k, none⟩ = some (.slice (some ⟨C, 0, none⟩) m m) ∧ (∃ W2, Below wi.heap.size wi W2 ∧ (w' = W2 ∨ w' = W2.setCell ⟨C, q, none⟩ (.int .i64 x)))) (w2.setCell ⟨C, q, none⟩ (.int .i64 x))) := ⟨(World.cell?_setCell_other _ _ _ _ (by intro e; injection e; omega)).trans f0, (World.cell?_setCell_other _ _ _ _ (by intro e; injection e; omega)).trans f1, (World.cell?_setCell_other _ _ _ _ (by intro e; injection e; omega)).trans f2, (World.cell?_setCell_other _ _ _ _ (by intro e; injection e; omega)).trans f3, w2, hb2, .inr rfl⟩
          clear hb2 f0 f1 f2 f3
          go_wp2_with fail
          refine hK.out _ _ ?_ (fun hHeld => ?_)
          · clear hK K; first | exact HS0.out | exact HS2.out | exact HS3.out
          clear hK K
          try simp only [List.getElem_toArray, List.getElem_cons_succ, List.getElem_cons_zero, Act.put, List.setIfInBounds_toArray, List.set_cons_zero, List.set_cons_succ]
          refine wpAnyH_take (i := 10) (v := ?_) rfl (by kernel_rfl) (by kernel_rfl) (by kernel_rfl) (fun _ _ _ h => h) (Or.inl ⟨by rfl, ?_⟩) (by assumption) ?_
          rotate_left
          · intro w hSw; (try dsimp only at hSw); go_simp; (try (with_reducible rfl))
          try simp only [List.getElem_toArray, List.getElem_cons_succ, List.getElem_cons_zero, Act.put, List.setIfInBounds_toArray, List.set_cons_zero, List.set_cons_succ]
          refine wpAnyH_ready (rs := [11]) (by kernel_rfl) (by simp) ?_
          refine AllReadyH.cons rfl (fun K hK => ?_) AllReadyH.nil
          go_simp
          refine hK.out _ _ ?_ (fun hHeld => ?_)
          · clear hK K; first | exact HS0.out | exact HS2.out | exact HS3.out
          clear hK K
          try simp only [List.getElem_toArray, List.getElem_cons_succ, List.getElem_cons_zero, Act.put, List.setIfInBounds_toArray, List.set_cons_zero, List.set_cons_succ]
          refine wpAnyH_done (by kernel_rfl) ?_ _
          clear hHeld HS0 HS2 HS3 CC d0 d1 d2 hcB hcC hfC f4 f5
          go_wp2
          go_roundw
          case rel => exact ⟨q + 1, by omega, by go_num, HI.out.step HB2.out HXQ.out⟩
          case measure => simp [intOf]; omega
        · obtain rfl : q = m := by omega
          go_wp2
          exact ⟨⟨k + 1, by omega, by go_num, HI.out.done_ (HXR.out k hlt).1⟩, by simp [intOf]; omega⟩
    · obtain rfl : k = n := by omega
      obtain ⟨⟨cur, hB, hcs⟩, hrows, hbox, hbel⟩ := HI.out
      have HRW := Lib.hid hrows
      have HBLT := Lib.hid hB.lt
      have HBL := Lib.hid hbel
      clear hB hrows hbox hbel hcs HI
      go_wp2
      go_ret2
      exact ⟨⟨_, rfl, HRW.out.rdGN HBLT.out HXL.out (fun j hj => (HXR.out j hj).1) (by omega)⟩, HB1.out.trans (HBL.out.mono HB1.out.size)⟩

end Go.Proofs.YtofdjapbofagiaaDoor

namespace Go.Proofs.YtofdjapbofagiaaDoor
open Go.RowKit


set_option maxRecDepth 100000 in
theorem refPricesErr_any (ad : Addr) (n c m c' : Nat) (B : Option Addr) (rows : List (List Int)) (b : Int) (PA : Option Addr) (k cp : Nat) (p : List (List Int)) (w : World) (hr : RdG w (some ad) n rows) (hn : 0 < n ∧ n ≤ 1000000) (hm : 0 < m ∧ m ≤ 1000000) (hadb : ad.block < w.heap.size) (hck : w.cell? ad = some (.slice B m c')) (hp : RdG w PA k p) (hk : k ≤ 1000000) (hbb : 0 ≤ b ∧ b ≤ 1000) (hg : ∀ r ∈ rows, r.length = m ∧ ∀ x ∈ r, 0 ≤ x ∧ x ≤ 255) :
    Calls Tryd.prog 38 #[.agg #[.slice (some ad) n c, .int .i64 b], .slice PA k cp] w fun e w' => e = .returned (.int .i64 (pricesE rows b n m p)) ∧ Below w.heap.size w w' := by
  by_cases hkn : k = n
  · subst hkn
    exact refPricesErr_same ad k c m c' B rows b PA cp p w hr hn hm hadb hck hp hbb hg
  · have HE : Hid (pricesE rows b n m p = 10) := if_neg (by rw [hp.1]; exact hkn)
    have hne : ((k : Int) != (n : Int)) = true := by rw [bne_iff_ne]; omega
    have hnI : (0 : Int) < (n : Int) := by omega
    have hb0 : Below w.heap.size w (w.alloc (.cells #[.slice (some ad) n c, .int .i64 b] 53)) := (Below.refl _ w).alloc (Nat.le_refl _) _
    have HB0 := Lib.hid hb0
    have k0 : (w.alloc (.cells #[.slice (some ad) n c, .int .i64 b] 53)).cell? ad = some (.slice B m c') := (hb0.cell hadb).trans hck
    rw [HE.out]
    clear hkn HE hp hck hb0 hn
    go_enter Tryd.func38, Tryd.ntmps38
    go_wp2
    go_ret
    exact ⟨rfl, HB0.out⟩

set_option maxRecDepth 100000 in
set_option maxHeartbeats 16000000 in
theorem prices_wide (A : Option Addr) (n c : Nat) (b : Int) (rows : List (List Int)) (PA : Option Addr) (k cp : Nat) (p : List (List Int)) (Q : Option Addr) (l cq : Nat) (path : List Int) (w : World) (hl : LaidSides w) (hr : RdGo w A n rows) (hpr : RdGo w PA k p) (hq : RdI w Q l path) (hgb : gridB 40 12 rows = false) :
    Calls Tryd.prog 7 #[.agg #[.slice A n c, .int .i64 b], .slice PA k cp, .slice Q l cq] w fun e w' => e = .returned (.bool true) ∧ Below w.heap.size w w' := by
  have hb0 : Below w.heap.size w (w.alloc (.cells #[.slice A n c, .int .i64 b] 53)) := (Below.refl _ _).alloc (Nat.le_refl _) _
  have HL := Lib.hid (hl.later hb0)
  have HT : Hid (TaskAt (w.alloc (.cells #[.slice A n c, .int .i64 b] 53)) w.heap.size A n c b) := Bk.new w 53 #[.slice A n c, .int .i64 b]
  have HRO := Lib.hid (hr.below hb0)
  have HPO := Lib.hid (hpr.below hb0)
  have HQO := Lib.hid (hq.below hb0)
  have low0 := Lib.hid hb0
  have CST : Hid (∀ W, RdGo W A n rows → Calls Tryd.prog 19 #[.slice A n c] W fun e w' => e = .returned (.bool false) ∧ W = w') := fun W h => by rw [← hgb]; exact strip_any _ n c rows W h
  clear hl hr hpr hq hb0 hgb
  go_enter Tryd.func7, Tryd.ntmps7
  go_wp2_with fail
  refine (awake_any _ HL.out).mono ?_
  rintro e w1 ⟨rfl, hb1⟩
  have Ft1 := Lib.hid (HT.out.below hb1)
  have Fo1 := Lib.hid (HRO.out.below hb1)
  have Fu1 := Lib.hid (HPO.out.below hb1)
  have Fp1 := Lib.hid (HQO.out.below hb1)
  have low1 := Lib.hid (low0.out.trans (hb1.mono low0.out.size))
  clear HT HRO HPO HQO low0 HL hb1
  have n0 : w1.cell? ⟨w.heap.size, 0, none⟩ = some (.slice A n c) := Ft1.out.c0
  have n1 : w1.cell? ⟨w.heap.size, 1, none⟩ = some (.int .i64 b) := Ft1.out.c1
  go_wp2_with fail
  refine (CST.out _ Fo1.out).mono ?_
  rintro e w' ⟨rfl, rfl⟩
  go_wp2
  go_ret
  exact ⟨rfl, low1.out⟩

set_option maxRecDepth 100000 in
set_option maxHeartbeats 16000000 in
theorem prices_wide2 (A : Option Addr) (n c : Nat) (b : Int) (rows : List (List Int)) (PA : Option Addr) (k cp : Nat) (p : List (List Int)) (Q : Option Addr) (l cq : Nat) (path : List Int) (w : World) (hl : LaidSides w) (hr : RdGo w A n rows) (hpr : RdGo w PA k p) (hq : RdI w Q l path) (hgb : gridB 40 12 rows = true) (hgp : gridB 40 12 p = false) :
    Calls Tryd.prog 7 #[.agg #[.slice A n c, .int .i64 b], .slice PA k cp, .slice Q l cq] w fun e w' => e = .returned (.bool true) ∧ Below w.heap.size w w' := by
  have hb0 : Below w.heap.size w (w.alloc (.cells #[.slice A n c, .int .i64 b] 53)) := (Below.refl _ _).alloc (Nat.le_refl _) _
  have HL := Lib.hid (hl.later hb0)
  have HT : Hid (TaskAt (w.alloc (.cells #[.slice A n c, .int .i64 b] 53)) w.heap.size A n c b) := Bk.new w 53 #[.slice A n c, .int .i64 b]
  have HRO := Lib.hid (hr.below hb0)
  have HPO := Lib.hid (hpr.below hb0)
  have HQO := Lib.hid (hq.below hb0)
  have low0 := Lib.hid hb0
  have CST : Hid (∀ W, RdGo W A n rows → Calls Tryd.prog 19 #[.slice A n c] W fun e w' => e = .returned (.bool true) ∧ W = w') := fun W h => by rw [← hgb]; exact strip_any _ n c rows W h
  have CGR : Hid (∀ W, RdGo W PA k p → Calls Tryd.prog 42 #[.slice PA k cp, .int .i64 40, .int .i64 12] W fun e w' => e = .returned (.bool false) ∧ W = w') := fun W h => by rw [← hgp]; exact grid_any _ k cp 40 12 p W h (by omega) (by omega)
  clear hl hr hpr hq hb0 hgb hgp
  go_enter Tryd.func7, Tryd.ntmps7
  go_wp2_with fail
  refine (awake_any _ HL.out).mono ?_
  rintro e w1 ⟨rfl, hb1⟩
  have Ft1 := Lib.hid (HT.out.below hb1)
  have Fo1 := Lib.hid (HRO.out.below hb1)
  have Fu1 := Lib.hid (HPO.out.below hb1)
  have Fp1 := Lib.hid (HQO.out.below hb1)
  have low1 := Lib.hid (low0.out.trans (hb1.mono low0.out.size))
  clear HT HRO HPO HQO low0 HL hb1
  have n0 : w1.cell? ⟨w.heap.size, 0, none⟩ = some (.slice A n c) := Ft1.out.c0
  have n1 : w1.cell? ⟨w.heap.size, 1, none⟩ = some (.int .i64 b) := Ft1.out.c1
  go_wp2_with fail
  refine (CST.out _ Fo1.out).mono ?_
  rintro e w' ⟨rfl, rfl⟩
  go_wp2_with fail
  refine (CGR.out _ Fu1.out).mono ?_
  rintro e w' ⟨rfl, rfl⟩
  go_wp2
  go_ret
  exact ⟨rfl, low1.out⟩

set_option maxRecDepth 100000 in
set_option maxHeartbeats 16000000 in
theorem prices_long (A : Option Addr) (n c : Nat) (b : Int) (rows : List (List Int)) (PA : Option Addr) (k cp : Nat) (p : List (List Int)) (Q : Option Addr) (l cq : Nat) (path : List Int) (w : World) (hl : LaidSides w) (hr : RdGo w A n rows) (hpr : RdGo w PA k p) (hq : RdI w Q l path) (hgb : gridB 40 12 rows = true) (hgp : gridB 40 12 p = true) (hk : ¬ l ≤ 42) :
    Calls Tryd.prog 7 #[.agg #[.slice A n c, .int .i64 b], .slice PA k cp, .slice Q l cq] w fun e w' => e = .returned (.bool true) ∧ Below w.heap.size w w' := by
  have hb0 : Below w.heap.size w (w.alloc (.cells #[.slice A n c, .int .i64 b] 53)) := (Below.refl _ _).alloc (Nat.le_refl _) _
  have HL := Lib.hid (hl.later hb0)
  have HT : Hid (TaskAt (w.alloc (.cells #[.slice A n c, .int .i64 b] 53)) w.heap.size A n c b) := Bk.new w 53 #[.slice A n c, .int .i64 b]
  have HRO := Lib.hid (hr.below hb0)
  have HPO := Lib.hid (hpr.below hb0)
  have HQO := Lib.hid (hq.below hb0)
  have low0 := Lib.hid hb0
  have CST : Hid (∀ W, RdGo W A n rows → Calls Tryd.prog 19 #[.slice A n c] W fun e w' => e = .returned (.bool true) ∧ W = w') := fun W h => by rw [← hgb]; exact strip_any _ n c rows W h
  have CGR : Hid (∀ W, RdGo W PA k p → Calls Tryd.prog 42 #[.slice PA k cp, .int .i64 40, .int .i64 12] W fun e w' => e = .returned (.bool true) ∧ W = w') := fun W h => by rw [← hgp]; exact grid_any _ k cp 40 12 p W h (by omega) (by omega)
  have hkI : (42 : Int) < (l : Int) := by omega
  clear hl hr hpr hq hb0 hgb hgp
  go_enter Tryd.func7, Tryd.ntmps7
  go_wp2_with fail
  refine (awake_any _ HL.out).mono ?_
  rintro e w1 ⟨rfl, hb1⟩
  have Ft1 := Lib.hid (HT.out.below hb1)
  have Fo1 := Lib.hid (HRO.out.below hb1)
  have Fu1 := Lib.hid (HPO.out.below hb1)
  have Fp1 := Lib.hid (HQO.out.below hb1)
  have low1 := Lib.hid (low0.out.trans (hb1.mono low0.out.size))
  clear HT HRO HPO HQO low0 HL hb1
  have n0 : w1.cell? ⟨w.heap.size, 0, none⟩ = some (.slice A n c) := Ft1.out.c0
  have n1 : w1.cell? ⟨w.heap.size, 1, none⟩ = some (.int .i64 b) := Ft1.out.c1
  go_wp2_with fail
  refine (CST.out _ Fo1.out).mono ?_
  rintro e w' ⟨rfl, rfl⟩
  go_wp2_with fail
  refine (CGR.out _ Fu1.out).mono ?_
  rintro e w' ⟨rfl, rfl⟩
  go_wp2
  go_ret
  exact ⟨rfl, low1.out⟩

end Go.Proofs.YtofdjapbofagiaaDoor

namespace Go.Proofs.YtofdjapbofagiaaDoor
open Go.RowKit

set_option maxRecDepth 100000 in
set_option maxHeartbeats 16000000 in
theorem proved_wide (A : Option Addr) (n c : Nat) (b : Int) (rows : List (List Int)) (Q : Option Addr) (l cq : Nat) (path : List Int) (pitch : Int) (w : World) (hl : LaidSides w) (hr : RdGo w A n rows) (hQ : Q = none → l = 0 ∧ cq = 0) (hq : RdI w Q l path) (hgb : gridB 40 12 rows = false) :
    Calls Tryd.prog 6 #[.agg #[.slice A n c, .int .i64 b], .slice Q l cq, .int .i64 pitch] w fun e w' => e = .returned (.bool true) ∧ Below w.heap.size w w' := by
  have hb0 : Below w.heap.size w (w.alloc (.cells #[.slice A n c, .int .i64 b] 53)) := (Below.refl _ _).alloc (Nat.le_refl _) _
  have HL := Lib.hid (hl.later hb0)
  have HT : Hid (TaskAt (w.alloc (.cells #[.slice A n c, .int .i64 b] 53)) w.heap.size A n c b) := Bk.new w 53 #[.slice A n c, .int .i64 b]
  have HRO := Lib.hid (hr.below hb0)
  have HQO := Lib.hid (hq.below hb0)
  have low0 := Lib.hid hb0
  have CST : Hid (∀ W, RdGo W A n rows → Calls Tryd.prog 19 #[.slice A n c] W fun e w' => e = .returned (.bool false) ∧ W = w') := fun W h => by rw [← hgb]; exact strip_any _ n c rows W h
  clear hl hr hQ hq hb0 hgb
  go_enter Tryd.func6, Tryd.ntmps6
  go_wp2_with fail
  refine (awake_any _ HL.out).mono ?_
  rintro e w1 ⟨rfl, hb1⟩
  have Ft1 := Lib.hid (HT.out.below hb1)
  have Fo1 := Lib.hid (HRO.out.below hb1)
  have Fp1 := Lib.hid (HQO.out.below hb1)
  have low1 := Lib.hid (low0.out.trans (hb1.mono low0.out.size))
  clear HT HRO HQO low0 HL hb1
  have n0 : w1.cell? ⟨w.heap.size, 0, none⟩ = some (.slice A n c) := Ft1.out.c0
  have n1 : w1.cell? ⟨w.heap.size, 1, none⟩ = some (.int .i64 b) := Ft1.out.c1
  go_wp2_with fail
  refine (CST.out _ Fo1.out).mono ?_
  rintro e w' ⟨rfl, rfl⟩
  go_wp2
  go_ret
  exact ⟨rfl, low1.out⟩

set_option maxRecDepth 100000 in
set_option maxHeartbeats 16000000 in
theorem proved_long (A : Option Addr) (n c : Nat) (b : Int) (rows : List (List Int)) (Q : Option Addr) (l cq : Nat) (path : List Int) (pitch : Int) (w : World) (hl : LaidSides w) (hr : RdGo w A n rows) (hQ : Q = none → l = 0 ∧ cq = 0) (hq : RdI w Q l path) (hgb : gridB 40 12 rows = true) (hk : ¬ l ≤ 40) :
    Calls Tryd.prog 6 #[.agg #[.slice A n c, .int .i64 b], .slice Q l cq, .int .i64 pitch] w fun e w' => e = .returned (.bool true) ∧ Below w.heap.size w w' := by
  have hb0 : Below w.heap.size w (w.alloc (.cells #[.slice A n c, .int .i64 b] 53)) := (Below.refl _ _).alloc (Nat.le_refl _) _
  have HL := Lib.hid (hl.later hb0)
  have HT : Hid (TaskAt (w.alloc (.cells #[.slice A n c, .int .i64 b] 53)) w.heap.size A n c b) := Bk.new w 53 #[.slice A n c, .int .i64 b]
  have HRO := Lib.hid (hr.below hb0)
  have HQO := Lib.hid (hq.below hb0)
  have low0 := Lib.hid hb0
  have CST : Hid (∀ W, RdGo W A n rows → Calls Tryd.prog 19 #[.slice A n c] W fun e w' => e = .returned (.bool true) ∧ W = w') := fun W h => by rw [← hgb]; exact strip_any _ n c rows W h
  have hkI : (40 : Int) < (l : Int) := by omega
  clear hl hr hQ hq hb0 hgb
  go_enter Tryd.func6, Tryd.ntmps6
  go_wp2_with fail
  refine (awake_any _ HL.out).mono ?_
  rintro e w1 ⟨rfl, hb1⟩
  have Ft1 := Lib.hid (HT.out.below hb1)
  have Fo1 := Lib.hid (HRO.out.below hb1)
  have Fp1 := Lib.hid (HQO.out.below hb1)
  have low1 := Lib.hid (low0.out.trans (hb1.mono low0.out.size))
  clear HT HRO HQO low0 HL hb1
  have n0 : w1.cell? ⟨w.heap.size, 0, none⟩ = some (.slice A n c) := Ft1.out.c0
  have n1 : w1.cell? ⟨w.heap.size, 1, none⟩ = some (.int .i64 b) := Ft1.out.c1
  go_wp2_with fail
  refine (CST.out _ Fo1.out).mono ?_
  rintro e w' ⟨rfl, rfl⟩
  go_wp2
  go_ret
  exact ⟨rfl, low1.out⟩

set_option maxRecDepth 100000 in
set_option maxHeartbeats 16000000 in
theorem proved_err (A : Option Addr) (n c : Nat) (b : Int) (rows : List (List Int)) (Q : Option Addr) (l cq : Nat) (path : List Int) (pitch : Int) (w : World) (hl : LaidSides w) (hr : RdGo w A n rows) (hQ : Q = none → l = 0 ∧ cq = 0) (hq : RdI w Q l path) (hgb : gridB 40 12 rows = true) (hk : l ≤ 40) (hn42 : n ≤ 42) (hm203 : ∀ j, j < n → (rows.getD j []).length ≤ 203) (E : Int) (hE0 : E ≠ 0) (htE : taskE rows b = E) :
    Calls Tryd.prog 6 #[.agg #[.slice A n c, .int .i64 b], .slice Q l cq, .int .i64 pitch] w fun e w' => e = .returned (.bool true) ∧ Below w.heap.size w w' := by
  have hb0 : Below w.heap.size w (w.alloc (.cells #[.slice A n c, .int .i64 b] 53)) := (Below.refl _ _).alloc (Nat.le_refl _) _
  have HL := Lib.hid (hl.later hb0)
  have HT : Hid (TaskAt (w.alloc (.cells #[.slice A n c, .int .i64 b] 53)) w.heap.size A n c b) := Bk.new w 53 #[.slice A n c, .int .i64 b]
  have HRO := Lib.hid (hr.below hb0)
  have HQO := Lib.hid (hq.below hb0)
  have low0 := Lib.hid hb0
  have HRN := Lib.hid ((hr.full hm203).below hb0)
  have CST : Hid (∀ W, RdGo W A n rows → Calls Tryd.prog 19 #[.slice A n c] W fun e w' => e = .returned (.bool true) ∧ W = w') := fun W h => by rw [← hgb]; exact strip_any _ n c rows W h
  have CTE : Hid (∀ W, RdGN W A n rows → Calls Tryd.prog 27 #[.agg #[.slice A n c, .int .i64 b]] W fun e w' => e = .returned (.int .i64 E) ∧ Below W.heap.size W w') := fun W h => by rw [← htE]; exact refTaskErr_any _ n c rows b W h.toG (by omega)
  have hkI : ¬ (40 : Int) < (l : Int) := by omega
  have hEb : (E != 0) = true := by simpa using hE0
  clear hl hr hQ hq hb0 hgb hm203 hE0 htE
  go_enter Tryd.func6, Tryd.ntmps6
  go_wp2_with fail
  refine (awake_any _ HL.out).mono ?_
  rintro e w1 ⟨rfl, hb1⟩
  have Ft1 := Lib.hid (HT.out.below hb1)
  have Fo1 := Lib.hid (HRO.out.below hb1)
  have Fp1 := Lib.hid (HQO.out.below hb1)
  have Fr1 := Lib.hid (HRN.out.below hb1)
  have low1 := Lib.hid (low0.out.trans (hb1.mono low0.out.size))
  clear HT HRO HQO HRN low0 HL hb1
  have n0 : w1.cell? ⟨w.heap.size, 0, none⟩ = some (.slice A n c) := Ft1.out.c0
  have n1 : w1.cell? ⟨w.heap.size, 1, none⟩ = some (.int .i64 b) := Ft1.out.c1
  go_wp2_with fail
  refine (CST.out _ Fo1.out).mono ?_
  rintro e w' ⟨rfl, rfl⟩
  go_wp2_with fail
  refine (CTE.out _ Fr1.out).mono ?_
  rintro e w2 ⟨rfl, hb2⟩
  clear n0 n1
  have Ft2 := Lib.hid (Ft1.out.below hb2)
  have Fp2 := Lib.hid (Fp1.out.below hb2)
  have Fr2 := Lib.hid (Fr1.out.below hb2)
  have low2 := Lib.hid (low1.out.trans (hb2.mono low1.out.size))
  clear Ft1 Fp1 Fr1 low1 hb2
  have n0 : w2.cell? ⟨w.heap.size, 0, none⟩ = some (.slice A n c) := Ft2.out.c0
  have n1 : w2.cell? ⟨w.heap.size, 1, none⟩ = some (.int .i64 b) := Ft2.out.c1
  go_wp2
  go_ret
  exact ⟨rfl, low2.out⟩

end Go.Proofs.YtofdjapbofagiaaDoor

namespace Go.Proofs.YtofdjapbofagiaaDoor
open Go.RowKit

set_option maxRecDepth 100000 in
set_option maxHeartbeats 16000000 in
theorem proved_oks (ad : Addr) (n c : Nat) (b : Int) (rows : List (List Int)) (Q : Option Addr) (l cq : Nat) (path : List Int) (pitch : Int) (w : World) (hl : LaidSides w) (hr : RdGo w (some ad) n rows) (hQ : Q = none → l = 0 ∧ cq = 0) (hq : RdI w Q l path) (hgb : gridB 40 12 rows = true) (hk : l ≤ 40) (hn42 : n ≤ 42) (hm203 : ∀ j, j < n → (rows.getD j []).length ≤ 203) (m c' : Nat) (B : Option Addr) (hck : CellAt w ad (.slice B m c')) (h : TkOk rows b n m) (htE : taskE rows b = 0) (hcm : colsOf rows = m) (ls : List Int) (cc : Int) (hbest : bestTo (fun _ _ => true) b m rows m = (ls, cc)) (q : Nat) (hnq : n = q + 1) (lz l0 p0 : Int) (hlz : ls.getD q 0 = lz) (hl0 : ls.getD 0 0 = l0) (hp0 : lz - l0 = p0) (E2 c2 : Int) (hE2 : turnE rows b pitch = E2) (hc2 : (turnL rows b pitch).2 = c2) (hfin : E2 ≠ 0 ∨ cc ≤ c2) (pE : Int) (hpe : pathE n m path = pE) (hpE : pE ≠ 0) :
    Calls Tryd.prog 6 #[.agg #[.slice (some ad) n c, .int .i64 b], .slice Q l cq, .int .i64 pitch] w fun e w' => e = .returned (.bool true) ∧ Below w.heap.size w w' := by
  have hb0 : Below w.heap.size w (w.alloc (.cells #[.slice (some ad) n c, .int .i64 b] 53)) := (Below.refl _ _).alloc (Nat.le_refl _) _
  have HL := Lib.hid (hl.later hb0)
  have HT : Hid (TaskAt (w.alloc (.cells #[.slice (some ad) n c, .int .i64 b] 53)) w.heap.size (some ad) n c b) := Bk.new w 53 #[.slice (some ad) n c, .int .i64 b]
  have HRO := Lib.hid (hr.below hb0)
  have HQO := Lib.hid (hq.below hb0)
  have low0 := Lib.hid hb0
  have HRN := Lib.hid ((hr.full hm203).below hb0)
  have HCK := Lib.hid (hck.below hb0)
  have h0n : 0 < n := h.n0
  have hm12 : m ≤ 12 := h.m12
  have hm0 : 0 < m := h.m0
  obtain ⟨b1, b2, b3, b4, b5, b6⟩ := best_spec h hbest
  have hlsn : ls.length = n := (path_in b1).1
  have hbl : bestL rows b = (ls, cc) := by unfold bestL; rw [if_pos htE, hcm]; exact hbest
  have hfirst := nth_nonneg b1 0 h.n0
  have hlast := nth_nonneg b1 q (by omega)
  rw [hl0] at hfirst
  rw [hlz] at hlast
  have hturn : turnT rows b p0 = (ls, cc) := by
    unfold turnT
    rw [hcm]
    exact turn_own _ h hbest (decide_eq_true (by rw [show n - 1 = q by omega, hl0, hlz]; omega))
  have hturnE : turnE rows b p0 = 0 := by
    unfold turnE
    rw [if_pos htE, if_pos (by unfold fromB; simp; omega), hturn, if_neg (by dsimp only; omega)]
  have hturnL : turnL rows b p0 = (ls, cc) := by unfold turnL; rw [if_pos hturnE, hturn]
  have hkI : ¬ (40 : Int) < (l : Int) := by omega
  have hcE : (cc != cc) = false := by simp
  have hcq : (cc == cc) = true := by simp
  have hccl : decide (cc < cc) = false := decide_eq_false (by omega)
  have hccn : ¬ cc < cc := by omega
  have CST : Hid (∀ W, RdGo W (some ad) n rows → Calls Tryd.prog 19 #[.slice (some ad) n c] W fun e w' => e = .returned (.bool true) ∧ W = w') := fun W h => by rw [← hgb]; exact strip_any _ n c rows W h
  have CTE : Hid (∀ W, RdGN W (some ad) n rows → Calls Tryd.prog 27 #[.agg #[.slice (some ad) n c, .int .i64 b]] W fun e w' => e = .returned (.int .i64 0) ∧ Below W.heap.size W w') := fun W h => by rw [← htE]; exact refTaskErr_any _ n c rows b W h.toG (by omega)
  have CCT : Hid (∀ W, RdGN W (some ad) n rows → Calls Tryd.prog 21 #[.agg #[.slice (some ad) n c, .int .i64 b]] W fun e w' => (∃ A' c', e = .returned (.agg #[.slice A' n c', .int .i64 b]) ∧ RdGN w' A' n rows) ∧ Below W.heap.size W w') := fun W h => copyTask_any _ n c rows b W h (by omega) hm203
  have CBP : Hid (∀ W A' c', RdGN W A' n rows → Calls Tryd.prog 33 #[.agg #[.slice A' n c', .int .i64 b]] W fun e w' => (∃ la cl, e = .returned (.tuple #[.slice (some la) n cl, .int .i64 cc, .int .i64 0]) ∧ RdI w' (some la) n ls ∧ CellAt w' (la.add q) (.int .i64 lz) ∧ CellAt w' la (.int .i64 l0)) ∧ Below W.heap.size W w') := fun W A' c' h1 => by
    have h2 := BestPath_any A' n c' rows b W h1.toG (by omega)
    rw [hbl, htE] at h2
    refine h2.mono ?_
    rintro e w' ⟨⟨v, he, ho⟩, hb⟩
    dsimp only at ho
    rw [hlsn] at ho
    obtain ⟨L, cl, rfl, _, h3⟩ := rd_of_own ho
    obtain ⟨la, rfl, hlt, hcell⟩ := h3.2 h0n
    have k0 := hcell 0 h0n
    rw [addZ, hl0] at k0
    have k1 := hcell q (by omega)
    rw [hlz] at k1
    exact ⟨⟨la, cl, he, h3, ⟨by rw [addBlock]; exact hlt, k1⟩, ⟨hlt, k0⟩⟩, hb⟩
  obtain ⟨X, hX⟩ : ∃ X, prTo rows b m n = X := ⟨_, rfl⟩
  have hXok : pricesE rows b n m X = 0 := by rw [← hX]; exact prTo_ok h
  have hXbd : boundF X = cc := by rw [← hX]; exact prTo_bound h hbest
  have hXlen : X.length = n := by rw [← hX]; exact prTo_length n
  have hXrow : ∀ r ∈ X, r.length = m := fun r hr => ((prices_parts hXok).2.1 r hr).1
  have hX203 : ∀ j, j < n → (X.getD j []).length ≤ 203 := fun j hj => by rw [hXrow _ (getD_in X j [] (by omega))]; omega
  have CPR : Hid (∀ W A' c', RdGN W A' n rows → Calls Tryd.prog 37 #[.agg #[.slice A' n c', .int .i64 b]] W fun e w' => (∃ A', e = .returned (.tuple #[.slice A' n n, .int .i64 0]) ∧ RdGN w' A' n X) ∧ Below W.heap.size W w') := fun W A' c' h1 => by
    have h2 := Prices_ok A' n c' rows b m W h1.toG (by omega) htE hcm
    rw [hX] at h2
    exact h2
  have CPE : Hid (∀ W L cl, CellAt W ad (.slice B m c') → RdI W L n ls → Calls Tryd.prog 28 #[.agg #[.slice (some ad) n c, .int .i64 b], .slice L n cl] W fun e w' => e = .returned (.int .i64 0) ∧ Below W.heap.size W w') := fun W L cl h1 h2 => by
    have h3 := refPathErr_any ad n c m c' B b L n cl ls W ⟨h0n, by omega⟩ (by omega) (by omega) h1.1 h1.2 h2
    rw [b1] at h3
    exact h3
  have CCO : Hid (∀ W L cl, RdGN W (some ad) n rows → RdI W L n ls → Calls Tryd.prog 29 #[.agg #[.slice (some ad) n c, .int .i64 b], .slice L n cl] W fun e w' => e = .returned (.int .i64 cc) ∧ Below W.heap.size W w') := fun W L cl h1 h2 => by
    have h3 := refCost_any ad n c m rows b L cl ls W h1.toG ⟨h0n, by omega⟩ (by omega) h2 b1 h.row h.bb
    rw [b2] at h3
    exact h3
  have CPX : Hid (∀ W P' c2, CellAt W ad (.slice B m c') → RdGN W (some ad) n rows → RdGN W P' n X → Calls Tryd.prog 38 #[.agg #[.slice (some ad) n c, .int .i64 b], .slice P' n c2] W fun e w' => e = .returned (.int .i64 0) ∧ Below W.heap.size W w') := fun W P' c2 h1 h2 h3 => by
    have h4 := refPricesErr_any ad n c m c' B rows b P' n c2 X W h2.toG ⟨h0n, by omega⟩ ⟨hm0, by omega⟩ h1.1 h1.2 h3.toG (by omega) h.bb h.row
    rw [hXok] at h4
    exact h4
  have CBD : Hid (∀ W P' c2, RdGN W P' n X → Calls Tryd.prog 39 #[.slice P' n c2] W fun e w' => e = .returned (.int .i64 cc) ∧ W = w') := fun W P' c2 h1 => by
    have h2 := refBound_any P' n c2 m X W h1.toG (by omega) ⟨hm0, by omega⟩ hXrow
    rw [hXbd] at h2
    exact h2
  have CCL : Hid (∀ W P' c2, RdGN W P' n X → Calls Tryd.prog 25 #[.slice P' n c2] W fun e w' => (∃ A' c', e = .returned (.slice A' n c') ∧ RdGN w' A' n X) ∧ Below W.heap.size W w') := fun W P' c2 h1 => by
    refine (copyLists_any _ n c2 X W h1 (by omega) hX203).mono ?_
    rintro e w' ⟨⟨v, he, ho⟩, hb⟩
    obtain ⟨A', c', e2, h2⟩ := ho.read hXlen hX203
    exact ⟨⟨A', c', by rw [he, e2], h2⟩, hb⟩
  have CCP : Hid (∀ W A' c' P' cp', RdGN W A' n rows → RdGN W P' n X → Calls Tryd.prog 40 #[.agg #[.slice A' n c', .int .i64 b], .slice P' n cp'] W fun e w' => e = .returned (.tuple #[.int .i64 cc, .int .i64 0]) ∧ Below W.heap.size W w') := fun W A' c' P' cp' h1 h2 => by
    have h3 := CheckPrices_any A' n c' rows b P' n cp' X W h1.toG (by omega) h2.toG (by omega)
    have hc : cpE rows b n X = 0 := by unfold cpE; rw [if_pos htE, hcm]; exact hXok
    rw [hc, if_pos rfl, hXbd] at h3
    exact h3
  have HQN := Lib.hid hQ
  have CCI : Hid (∀ W, RdI W Q l path → Calls Tryd.prog 22 #[.slice Q l cq] W fun e w' => (∃ A' c', e = .returned (.slice A' l c') ∧ RdI w' A' l path) ∧ Below W.heap.size W w') := fun W h1 => by
    refine (copyInts_any Q l cq path W HQN.out h1 (by omega)).mono ?_
    rintro e w' ⟨⟨v, he, ho⟩, hb⟩
    have hpl : path.length = l := h1.1
    rw [hpl] at ho
    obtain ⟨A', c', rfl, _, h3⟩ := rd_of_own ho
    exact ⟨⟨A', c', he, h3⟩, hb⟩
  have CCS : Hid (∀ W A' c' P' cp', RdGN W A' n rows → RdI W P' l path → Calls Tryd.prog 20 #[.agg #[.slice A' n c', .int .i64 b], .slice P' l cp'] W fun e w' => e = .returned (.tuple #[.int .i64 0, .int .i64 pE]) ∧ Below W.heap.size W w') := fun W A' c' P' cp' h1 h2 => by
    have h3 := CostOf_any A' n c' rows b P' l cp' path W h1.toG (by omega) h2 (by omega)
    have hc : cstE rows b n path = pathE n m path := by unfold cstE; rw [if_pos htE, hcm]
    rw [hc, hpe, if_neg hpE] at h3
    exact h3
  have CTO : Hid (∀ W A' c', RdGN W A' n rows → Calls Tryd.prog 34 #[.agg #[.slice A' n c', .int .i64 b], .int .i64 p0] W fun e w' => (∃ L cl, e = .returned (.tuple #[.slice L n cl, .int .i64 cc, .int .i64 0]) ∧ RdI w' L n ls) ∧ Below W.heap.size W w') := fun W A' c' h1 => by
    have h2 := TurnPath_any A' n c' rows b p0 W h1.toG (by omega)
    rw [hturnE, hturnL] at h2
    refine h2.mono ?_
    rintro e w' ⟨⟨v, he, ho⟩, hb⟩
    dsimp only at ho
    rw [hlsn] at ho
    obtain ⟨L, cl, rfl, _, h3⟩ := rd_of_own ho
    exact ⟨⟨L, cl, he, h3⟩, hb⟩
  have CTP : Hid (∀ W A' c', RdGN W A' n rows → Calls Tryd.prog 34 #[.agg #[.slice A' n c', .int .i64 b], .int .i64 pitch] W fun e w' => (∃ v, e = .returned (.tuple #[v, .int .i64 c2, .int .i64 E2])) ∧ Below W.heap.size W w') := fun W A' c' h1 => by
    have h2 := TurnPath_any A' n c' rows b pitch W h1.toG (by omega)
    rw [hE2, hc2] at h2
    refine h2.mono ?_
    rintro e w' ⟨⟨v, he, ho⟩, hb⟩
    exact ⟨⟨v, he⟩, hb⟩
  have CIN : Hid (∀ W L cl L' cl', RdI W L n ls → RdI W L' n ls → Calls Tryd.prog 16 #[.slice L n cl, .slice L' n cl'] W fun e w' => e = .returned (.bool true) ∧ Below W.heap.size W w') := fun W L cl L' cl' h1 h2 => by
    refine (ints_any L L' n n cl cl' ls ls W h1 h2 (by omega) (by omega)).mono ?_
    rintro e w' ⟨he, k, rfl⟩
    exact ⟨by rw [he, decide_eq_true rfl], belowDrewN (Below.refl _ _) _⟩
  have hz1 : IntKind.i64.wrap ((n : Int) - 1) = (q : Int) := by rw [show (n : Int) - 1 = (q : Int) by omega]; exact IntWalk.i64_in _ (by omega)
  have hz2 : IntKind.i64.wrap (lz - l0) = p0 := by rw [hp0]; exact IntWalk.i64_in _ (by omega)
  have hz3 : (0 : Int) ≤ (q : Int) := by omega
  have hz4 : (q : Int) < (n : Int) := by omega
  have hz5 : (0 : Int) < (n : Int) := by omega
  have hpn : (pE == 0) = false := by simpa using hpE
  clear hl hr hQ hq hb0 hgb hm203 htE hck h hcm hbest hlz hl0 hp0 hE2 hc2 b1 b2 b3 b4 b5 b6 hlsn hbl hfirst hlast hturn hturnE hturnL hX hXok hXbd hXlen hXrow hX203 hnq hm12 hm0 hpe hpE
  go_enter Tryd.func6, Tryd.ntmps6
  go_wp2_with fail
  refine (awake_any _ HL.out).mono ?_
  rintro e w1 ⟨rfl, hb1⟩
  have Ft1 := Lib.hid (HT.out.below hb1)
  have Fo1 := Lib.hid (HRO.out.below hb1)
  have Fp1 := Lib.hid (HQO.out.below hb1)
  have Fr1 := Lib.hid (HRN.out.below hb1)
  have Fk1 := Lib.hid (HCK.out.below hb1)
  have low1 := Lib.hid (low0.out.trans (hb1.mono low0.out.size))
  clear HT HRO HQO HRN HCK low0 HL hb1
  have n0 : w1.cell? ⟨w.heap.size, 0, none⟩ = some (.slice (some ad) n c) := Ft1.out.c0
  have n1 : w1.cell? ⟨w.heap.size, 1, none⟩ = some (.int .i64 b) := Ft1.out.c1
  go_wp2_with fail
  refine (CST.out _ Fo1.out).mono ?_
  rintro e w' ⟨rfl, rfl⟩
  go_wp2_with fail
  refine (CTE.out _ Fr1.out).mono ?_
  rintro e w2 ⟨rfl, hb2⟩
  clear n0 n1
  have Ft2 := Lib.hid (Ft1.out.below hb2)
  have Fp2 := Lib.hid (Fp1.out.below hb2)
  have Fr2 := Lib.hid (Fr1.out.below hb2)
  have Fk2 := Lib.hid (Fk1.out.below hb2)
  have low2 := Lib.hid (low1.out.trans (hb2.mono low1.out.size))
  clear Ft1 Fp1 Fr1 Fk1 low1 hb2
  have n0 : w2.cell? ⟨w.heap.size, 0, none⟩ = some (.slice (some ad) n c) := Ft2.out.c0
  have n1 : w2.cell? ⟨w.heap.size, 1, none⟩ = some (.int .i64 b) := Ft2.out.c1
  go_wp2_with fail
  refine (CCT.out _ Fr2.out).mono ?_
  rintro e w3 ⟨⟨A2, c2', rfl, hr2⟩, hb3⟩
  clear n0 n1
  have Ft3 := Lib.hid (Ft2.out.below hb3)
  have Fp3 := Lib.hid (Fp2.out.below hb3)
  have Fr3 := Lib.hid (Fr2.out.below hb3)
  have Fk3 := Lib.hid (Fk2.out.below hb3)
  have low3 := Lib.hid (low2.out.trans (hb3.mono low2.out.size))
  have Fa3 := Lib.hid hr2
  clear hr2
  clear Ft2 Fp2 Fr2 Fk2 low2 hb3
  have n0 : w3.cell? ⟨w.heap.size, 0, none⟩ = some (.slice (some ad) n c) := Ft3.out.c0
  have n1 : w3.cell? ⟨w.heap.size, 1, none⟩ = some (.int .i64 b) := Ft3.out.c1
  go_wp2_with fail
  refine (CBP.out _ _ _ Fa3.out).mono ?_
  rintro e w4 ⟨⟨la, cl, rfl, hr3, hr4, hr5⟩, hb4⟩
  clear n0 n1
  have Ft4 := Lib.hid (Ft3.out.below hb4)
  have Fp4 := Lib.hid (Fp3.out.below hb4)
  have Fr4 := Lib.hid (Fr3.out.below hb4)
  have Fk4 := Lib.hid (Fk3.out.below hb4)
  have Fa4 := Lib.hid (Fa3.out.below hb4)
  have low4 := Lib.hid (low3.out.trans (hb4.mono low3.out.size))
  have Fl4 := Lib.hid hr3
  have Fu4 := Lib.hid hr4
  have Fv4 := Lib.hid hr5
  clear hr3 hr4 hr5
  clear Ft3 Fp3 Fr3 Fk3 Fa3 low3 hb4
  have n0 : w4.cell? ⟨w.heap.size, 0, none⟩ = some (.slice (some ad) n c) := Ft4.out.c0
  have n1 : w4.cell? ⟨w.heap.size, 1, none⟩ = some (.int .i64 b) := Ft4.out.c1
  go_wp2_with fail
  refine (CCT.out _ Fr4.out).mono ?_
  rintro e w5 ⟨⟨A2, c2', rfl, hr2⟩, hb5⟩
  clear n0 n1
  have Ft5 := Lib.hid (Ft4.out.below hb5)
  have Fp5 := Lib.hid (Fp4.out.below hb5)
  have Fr5 := Lib.hid (Fr4.out.below hb5)
  have Fk5 := Lib.hid (Fk4.out.below hb5)
  have Fl5 := Lib.hid (Fl4.out.below hb5)
  have Fu5 := Lib.hid (Fu4.out.below hb5)
  have Fv5 := Lib.hid (Fv4.out.below hb5)
  have low5 := Lib.hid (low4.out.trans (hb5.mono low4.out.size))
  have Fa5 := Lib.hid hr2
  clear hr2
  clear Ft4 Fp4 Fr4 Fk4 Fl4 Fu4 Fv4 low4 hb5
  have n0 : w5.cell? ⟨w.heap.size, 0, none⟩ = some (.slice (some ad) n c) := Ft5.out.c0
  have n1 : w5.cell? ⟨w.heap.size, 1, none⟩ = some (.int .i64 b) := Ft5.out.c1
  go_wp2_with fail
  refine (CPR.out _ _ _ Fa5.out).mono ?_
  rintro e w6 ⟨⟨PX, rfl, hr3⟩, hb6⟩
  clear n0 n1
  have Ft6 := Lib.hid (Ft5.out.below hb6)
  have Fp6 := Lib.hid (Fp5.out.below hb6)
  have Fr6 := Lib.hid (Fr5.out.below hb6)
  have Fk6 := Lib.hid (Fk5.out.below hb6)
  have Fl6 := Lib.hid (Fl5.out.below hb6)
  have Fu6 := Lib.hid (Fu5.out.below hb6)
  have Fv6 := Lib.hid (Fv5.out.below hb6)
  have Fa6 := Lib.hid (Fa5.out.below hb6)
  have low6 := Lib.hid (low5.out.trans (hb6.mono low5.out.size))
  have Fx6 := Lib.hid hr3
  clear hr3
  clear Ft5 Fp5 Fr5 Fk5 Fl5 Fu5 Fv5 Fa5 low5 hb6
  have n0 : w6.cell? ⟨w.heap.size, 0, none⟩ = some (.slice (some ad) n c) := Ft6.out.c0
  have n1 : w6.cell? ⟨w.heap.size, 1, none⟩ = some (.int .i64 b) := Ft6.out.c1
  go_wp2_with fail
  refine (CPE.out _ _ _ Fk6.out Fl6.out).mono ?_
  rintro e w7 ⟨rfl, hb7⟩
  clear n0 n1
  have Ft7 := Lib.hid (Ft6.out.below hb7)
  have Fp7 := Lib.hid (Fp6.out.below hb7)
  have Fr7 := Lib.hid (Fr6.out.below hb7)
  have Fk7 := Lib.hid (Fk6.out.below hb7)
  have Fl7 := Lib.hid (Fl6.out.below hb7)
  have Fu7 := Lib.hid (Fu6.out.below hb7)
  have Fv7 := Lib.hid (Fv6.out.below hb7)
  have Fx7 := Lib.hid (Fx6.out.below hb7)
  have low7 := Lib.hid (low6.out.trans (hb7.mono low6.out.size))
  clear Ft6 Fp6 Fr6 Fk6 Fl6 Fu6 Fv6 Fx6 low6 hb7
  have n0 : w7.cell? ⟨w.heap.size, 0, none⟩ = some (.slice (some ad) n c) := Ft7.out.c0
  have n1 : w7.cell? ⟨w.heap.size, 1, none⟩ = some (.int .i64 b) := Ft7.out.c1
  go_wp2_with fail
  refine (CCO.out _ _ _ Fr7.out Fl7.out).mono ?_
  rintro e w8 ⟨rfl, hb8⟩
  clear n0 n1
  have Ft8 := Lib.hid (Ft7.out.below hb8)
  have Fp8 := Lib.hid (Fp7.out.below hb8)
  have Fr8 := Lib.hid (Fr7.out.below hb8)
  have Fk8 := Lib.hid (Fk7.out.below hb8)
  have Fl8 := Lib.hid (Fl7.out.below hb8)
  have Fu8 := Lib.hid (Fu7.out.below hb8)
  have Fv8 := Lib.hid (Fv7.out.below hb8)
  have Fx8 := Lib.hid (Fx7.out.below hb8)
  have low8 := Lib.hid (low7.out.trans (hb8.mono low7.out.size))
  clear Ft7 Fp7 Fr7 Fk7 Fl7 Fu7 Fv7 Fx7 low7 hb8
  have n0 : w8.cell? ⟨w.heap.size, 0, none⟩ = some (.slice (some ad) n c) := Ft8.out.c0
  have n1 : w8.cell? ⟨w.heap.size, 1, none⟩ = some (.int .i64 b) := Ft8.out.c1
  go_wp2_with fail
  refine (CPX.out _ _ _ Fk8.out Fr8.out Fx8.out).mono ?_
  rintro e w9 ⟨rfl, hb9⟩
  clear n0 n1
  have Ft9 := Lib.hid (Ft8.out.below hb9)
  have Fp9 := Lib.hid (Fp8.out.below hb9)
  have Fr9 := Lib.hid (Fr8.out.below hb9)
  have Fk9 := Lib.hid (Fk8.out.below hb9)
  have Fl9 := Lib.hid (Fl8.out.below hb9)
  have Fu9 := Lib.hid (Fu8.out.below hb9)
  have Fv9 := Lib.hid (Fv8.out.below hb9)
  have Fx9 := Lib.hid (Fx8.out.below hb9)
  have low9 := Lib.hid (low8.out.trans (hb9.mono low8.out.size))
  clear Ft8 Fp8 Fr8 Fk8 Fl8 Fu8 Fv8 Fx8 low8 hb9
  have n0 : w9.cell? ⟨w.heap.size, 0, none⟩ = some (.slice (some ad) n c) := Ft9.out.c0
  have n1 : w9.cell? ⟨w.heap.size, 1, none⟩ = some (.int .i64 b) := Ft9.out.c1
  go_wp2_with fail
  refine (CBD.out _ _ _ Fx9.out).mono ?_
  rintro e w' ⟨rfl, rfl⟩
  go_wp2_with fail
  refine (CCT.out _ Fr9.out).mono ?_
  rintro e w10 ⟨⟨A2, c2', rfl, hr2⟩, hb10⟩
  clear n0 n1
  have Ft10 := Lib.hid (Ft9.out.below hb10)
  have Fp10 := Lib.hid (Fp9.out.below hb10)
  have Fr10 := Lib.hid (Fr9.out.below hb10)
  have Fk10 := Lib.hid (Fk9.out.below hb10)
  have Fl10 := Lib.hid (Fl9.out.below hb10)
  have Fu10 := Lib.hid (Fu9.out.below hb10)
  have Fv10 := Lib.hid (Fv9.out.below hb10)
  have Fx10 := Lib.hid (Fx9.out.below hb10)
  have low10 := Lib.hid (low9.out.trans (hb10.mono low9.out.size))
  have Fa10 := Lib.hid hr2
  clear hr2
  clear Ft9 Fp9 Fr9 Fk9 Fl9 Fu9 Fv9 Fx9 low9 hb10
  have n0 : w10.cell? ⟨w.heap.size, 0, none⟩ = some (.slice (some ad) n c) := Ft10.out.c0
  have n1 : w10.cell? ⟨w.heap.size, 1, none⟩ = some (.int .i64 b) := Ft10.out.c1
  go_wp2_with fail
  refine (CCL.out _ _ _ Fx10.out).mono ?_
  rintro e w11 ⟨⟨P3, c3, rfl, hr3⟩, hb11⟩
  clear n0 n1
  have Ft11 := Lib.hid (Ft10.out.below hb11)
  have Fp11 := Lib.hid (Fp10.out.below hb11)
  have Fr11 := Lib.hid (Fr10.out.below hb11)
  have Fk11 := Lib.hid (Fk10.out.below hb11)
  have Fl11 := Lib.hid (Fl10.out.below hb11)
  have Fu11 := Lib.hid (Fu10.out.below hb11)
  have Fv11 := Lib.hid (Fv10.out.below hb11)
  have Fx11 := Lib.hid (Fx10.out.below hb11)
  have Fa11 := Lib.hid (Fa10.out.below hb11)
  have low11 := Lib.hid (low10.out.trans (hb11.mono low10.out.size))
  have Fq11 := Lib.hid hr3
  clear hr3
  clear Ft10 Fp10 Fr10 Fk10 Fl10 Fu10 Fv10 Fx10 Fa10 low10 hb11
  have n0 : w11.cell? ⟨w.heap.size, 0, none⟩ = some (.slice (some ad) n c) := Ft11.out.c0
  have n1 : w11.cell? ⟨w.heap.size, 1, none⟩ = some (.int .i64 b) := Ft11.out.c1
  go_wp2_with fail
  refine (CCP.out _ _ _ _ _ Fa11.out Fq11.out).mono ?_
  rintro e w12 ⟨rfl, hb12⟩
  clear n0 n1
  have Ft12 := Lib.hid (Ft11.out.below hb12)
  have Fp12 := Lib.hid (Fp11.out.below hb12)
  have Fr12 := Lib.hid (Fr11.out.below hb12)
  have Fk12 := Lib.hid (Fk11.out.below hb12)
  have Fl12 := Lib.hid (Fl11.out.below hb12)
  have Fu12 := Lib.hid (Fu11.out.below hb12)
  have Fv12 := Lib.hid (Fv11.out.below hb12)
  have Fx12 := Lib.hid (Fx11.out.below hb12)
  have Fa12 := Lib.hid (Fa11.out.below hb12)
  have Fq12 := Lib.hid (Fq11.out.below hb12)
  have low12 := Lib.hid (low11.out.trans (hb12.mono low11.out.size))
  clear Ft11 Fp11 Fr11 Fk11 Fl11 Fu11 Fv11 Fx11 Fa11 Fq11 low11 hb12
  have n0 : w12.cell? ⟨w.heap.size, 0, none⟩ = some (.slice (some ad) n c) := Ft12.out.c0
  have n1 : w12.cell? ⟨w.heap.size, 1, none⟩ = some (.int .i64 b) := Ft12.out.c1
  go_wp2_with fail
  refine (CCT.out _ Fr12.out).mono ?_
  rintro e w13 ⟨⟨A2, c2', rfl, hr2⟩, hb13⟩
  clear n0 n1
  have Ft13 := Lib.hid (Ft12.out.below hb13)
  have Fp13 := Lib.hid (Fp12.out.below hb13)
  have Fr13 := Lib.hid (Fr12.out.below hb13)
  have Fk13 := Lib.hid (Fk12.out.below hb13)
  have Fl13 := Lib.hid (Fl12.out.below hb13)
  have Fu13 := Lib.hid (Fu12.out.below hb13)
  have Fv13 := Lib.hid (Fv12.out.below hb13)
  have low13 := Lib.hid (low12.out.trans (hb13.mono low12.out.size))
  have Fa13 := Lib.hid hr2
  clear hr2
  clear Ft12 Fp12 Fr12 Fk12 Fl12 Fu12 Fv12 low12 hb13
  have n0 : w13.cell? ⟨w.heap.size, 0, none⟩ = some (.slice (some ad) n c) := Ft13.out.c0
  have n1 : w13.cell? ⟨w.heap.size, 1, none⟩ = some (.int .i64 b) := Ft13.out.c1
  go_wp2_with fail
  refine (CCI.out _ Fp13.out).mono ?_
  rintro e w14 ⟨⟨P4, c4, rfl, hr3⟩, hb14⟩
  clear n0 n1
  have Ft14 := Lib.hid (Ft13.out.below hb14)
  have Fp14 := Lib.hid (Fp13.out.below hb14)
  have Fr14 := Lib.hid (Fr13.out.below hb14)
  have Fk14 := Lib.hid (Fk13.out.below hb14)
  have Fl14 := Lib.hid (Fl13.out.below hb14)
  have Fu14 := Lib.hid (Fu13.out.below hb14)
  have Fv14 := Lib.hid (Fv13.out.below hb14)
  have Fa14 := Lib.hid (Fa13.out.below hb14)
  have low14 := Lib.hid (low13.out.trans (hb14.mono low13.out.size))
  have Fi14 := Lib.hid hr3
  clear hr3
  clear Ft13 Fp13 Fr13 Fk13 Fl13 Fu13 Fv13 Fa13 low13 hb14
  have n0 : w14.cell? ⟨w.heap.size, 0, none⟩ = some (.slice (some ad) n c) := Ft14.out.c0
  have n1 : w14.cell? ⟨w.heap.size, 1, none⟩ = some (.int .i64 b) := Ft14.out.c1
  go_wp2_with fail
  refine (CCS.out _ _ _ _ _ Fa14.out Fi14.out).mono ?_
  rintro e w15 ⟨rfl, hb15⟩
  clear n0 n1
  have Ft15 := Lib.hid (Ft14.out.below hb15)
  have Fp15 := Lib.hid (Fp14.out.below hb15)
  have Fr15 := Lib.hid (Fr14.out.below hb15)
  have Fk15 := Lib.hid (Fk14.out.below hb15)
  have Fl15 := Lib.hid (Fl14.out.below hb15)
  have Fu15 := Lib.hid (Fu14.out.below hb15)
  have Fv15 := Lib.hid (Fv14.out.below hb15)
  have Fa15 := Lib.hid (Fa14.out.below hb15)
  have Fi15 := Lib.hid (Fi14.out.below hb15)
  have low15 := Lib.hid (low14.out.trans (hb15.mono low14.out.size))
  clear Ft14 Fp14 Fr14 Fk14 Fl14 Fu14 Fv14 Fa14 Fi14 low14 hb15
  have n0 : w15.cell? ⟨w.heap.size, 0, none⟩ = some (.slice (some ad) n c) := Ft15.out.c0
  have n1 : w15.cell? ⟨w.heap.size, 1, none⟩ = some (.int .i64 b) := Ft15.out.c1
  have y2 := Fu15.out.2
  have y3 := Fv15.out.2
  have y4 : w.heap.size < w15.heap.size := Ft15.out.lt
  have y5 : (la.add q).block < w15.heap.size := Fu15.out.1
  have y6 : la.block < w15.heap.size := Fv15.out.1
  have HSB : Hid (∀ W, Below w15.heap.size w15 W → (fun w' : World => w'.cell? ⟨w.heap.size, 0, none⟩ = some (.slice (some ad) n c) ∧ w'.cell? ⟨w.heap.size, 1, none⟩ = some (.int .i64 b) ∧ w'.cell? (la.add q) = some (.int .i64 lz) ∧ w'.cell? la = some (.int .i64 l0) ∧ Below w15.heap.size w15 w') W) := fun W hb => ⟨(hb.cell (p := ⟨w.heap.size, 0, none⟩) y4).trans n0, (hb.cell (p := ⟨w.heap.size, 1, none⟩) y4).trans n1, (hb.cell y5).trans y2, (hb.cell y6).trans y3, hb⟩
  go_wp2_with fail
  refine wp_region_held_drew (S := (fun w' : World => w'.cell? ⟨w.heap.size, 0, none⟩ = some (.slice (some ad) n c) ∧ w'.cell? ⟨w.heap.size, 1, none⟩ = some (.int .i64 b) ∧ w'.cell? (la.add q) = some (.int .i64 lz) ∧ w'.cell? la = some (.int .i64 l0) ∧ Below w15.heap.size w15 w')) (by kernel_rfl) ?_ ?_
  · exact HSB.out _ (Below.refl _ _).drew
  intro hHeld
  refine wpAnyH_take (i := 0) (v := ?_) rfl (by kernel_rfl) (by kernel_rfl) (by kernel_rfl) (fun _ _ _ h => h) (Or.inl ⟨by rfl, ?_⟩) (by assumption) ?_
  rotate_left
  · intro w hSw; (try dsimp only at hSw); go_simp; (try (with_reducible rfl))
  try simp only [List.getElem_toArray, List.getElem_cons_succ, List.getElem_cons_zero, Act.put, List.setIfInBounds_toArray, List.set_cons_zero, List.set_cons_succ]
  refine wpAnyH_take (i := 2) (v := ?_) rfl (by kernel_rfl) (by kernel_rfl) (by kernel_rfl) (fun _ _ _ h => h) (Or.inl ⟨by rfl, ?_⟩) (by assumption) ?_
  rotate_left
  · intro w hSw; (try dsimp only at hSw); go_simp; (try (with_reducible rfl))
  try simp only [List.getElem_toArray, List.getElem_cons_succ, List.getElem_cons_zero, Act.put, List.setIfInBounds_toArray, List.set_cons_zero, List.set_cons_succ]
  refine wpAnyH_take (i := 3) (v := ?_) rfl (by kernel_rfl) (by kernel_rfl) (by kernel_rfl) (fun _ _ _ h => h) (Or.inl ⟨by rfl, ?_⟩) (by assumption) ?_
  rotate_left
  · intro w hSw; (try dsimp only at hSw); go_simp; (try (with_reducible rfl))
  try simp only [List.getElem_toArray, List.getElem_cons_succ, List.getElem_cons_zero, Act.put, List.setIfInBounds_toArray, List.set_cons_zero, List.set_cons_succ]
  refine wpAnyH_take (i := 4) (v := ?_) rfl (by kernel_rfl) (by kernel_rfl) (by kernel_rfl) (fun _ _ _ h => h) (Or.inl ⟨by rfl, ?_⟩) (by assumption) ?_
  rotate_left
  · intro w hSw; (try dsimp only at hSw); go_simp; (try (with_reducible rfl))
  try simp only [List.getElem_toArray, List.getElem_cons_succ, List.getElem_cons_zero, Act.put, List.setIfInBounds_toArray, List.set_cons_zero, List.set_cons_succ]
  refine wpAnyH_take (i := 5) (v := ?_) rfl (by kernel_rfl) (by kernel_rfl) (by kernel_rfl) (fun _ _ _ h => h) (Or.inl ⟨by rfl, ?_⟩) (by assumption) ?_
  rotate_left
  · intro w hSw; (try dsimp only at hSw); go_simp; (try (with_reducible rfl))
  try simp only [List.getElem_toArray, List.getElem_cons_succ, List.getElem_cons_zero, Act.put, List.setIfInBounds_toArray, List.set_cons_zero, List.set_cons_succ]
  refine wpAnyH_take (i := 6) (v := ?_) rfl (by kernel_rfl) (by kernel_rfl) (by kernel_rfl) (fun _ _ _ h => h) (Or.inl ⟨by rfl, ?_⟩) (by assumption) ?_
  rotate_left
  · intro w hSw; (try dsimp only at hSw); go_simp; (try (with_reducible rfl))
  try simp only [List.getElem_toArray, List.getElem_cons_succ, List.getElem_cons_zero, Act.put, List.setIfInBounds_toArray, List.set_cons_zero, List.set_cons_succ]
  refine wpAnyH_take (i := 7) (v := ?_) rfl (by kernel_rfl) (by kernel_rfl) (by kernel_rfl) (fun _ _ _ h => h) (Or.inl ⟨by rfl, ?_⟩) (by assumption) ?_
  rotate_left
  · intro w hSw; (try dsimp only at hSw); go_simp; (try (with_reducible rfl))
  try simp only [List.getElem_toArray, List.getElem_cons_succ, List.getElem_cons_zero, Act.put, List.setIfInBounds_toArray, List.set_cons_zero, List.set_cons_succ]
  refine wpAnyH_take (i := 8) (v := ?_) rfl (by kernel_rfl) (by kernel_rfl) (by kernel_rfl) (fun _ _ _ h => h) (Or.inl ⟨by rfl, ?_⟩) (by assumption) ?_
  rotate_left
  · intro w hSw; (try dsimp only at hSw); go_simp; (try (with_reducible rfl))
  try simp only [List.getElem_toArray, List.getElem_cons_succ, List.getElem_cons_zero, Act.put, List.setIfInBounds_toArray, List.set_cons_zero, List.set_cons_succ]
  refine wpAnyH_take (i := 9) (v := ?_) rfl (by kernel_rfl) (by kernel_rfl) (by kernel_rfl) (fun _ _ _ h => h) (Or.inl ⟨by rfl, ?_⟩) (by assumption) ?_
  rotate_left
  · intro w hSw; (try dsimp only at hSw); go_simp; (try (with_reducible rfl))
  try simp only [List.getElem_toArray, List.getElem_cons_succ, List.getElem_cons_zero, Act.put, List.setIfInBounds_toArray, List.set_cons_zero, List.set_cons_succ]
  refine wpAnyH_take (i := 10) (v := ?_) rfl (by kernel_rfl) (by kernel_rfl) (by kernel_rfl) (fun _ _ _ h => h) (Or.inl ⟨by rfl, ?_⟩) (by assumption) ?_
  rotate_left
  · intro w hSw; (try dsimp only at hSw); go_simp; (try (with_reducible rfl))
  try simp only [List.getElem_toArray, List.getElem_cons_succ, List.getElem_cons_zero, Act.put, List.setIfInBounds_toArray, List.set_cons_zero, List.set_cons_succ]
  refine wpAnyH_take (i := 11) (v := ?_) rfl (by kernel_rfl) (by kernel_rfl) (by kernel_rfl) (fun _ _ _ h => h) (Or.inl ⟨by rfl, ?_⟩) (by assumption) ?_
  rotate_left
  · intro w hSw; (try dsimp only at hSw); go_simp; (try (with_reducible rfl))
  try simp only [List.getElem_toArray, List.getElem_cons_succ, List.getElem_cons_zero, Act.put, List.setIfInBounds_toArray, List.set_cons_zero, List.set_cons_succ]
  refine wpAnyH_ready (rs := [1]) (by kernel_rfl) (by simp) ?_
  refine (AllReadyH.cons rfl (fun K hK => ?_) AllReadyH.nil)
  go_simp
  go_at_call 21; refine (CCT.out _ (Fr15.out.below (Below.refl _ _).drew)).mono ?_; rintro e wy ⟨⟨A2, c2', rfl, hr1⟩, hb1⟩
  have hby : Below w15.heap.size w15 wy := ((Below.refl w15.heap.size w15).drew).trans (hb1.mono ((Below.refl w15.heap.size w15).drew).size)
  have HRY := Lib.hid hr1
  have HBY := Lib.hid hby
  clear hr1 hb1 hby
  go_wp2_with fail
  refine hK.out _ _ ?_ (fun hHeld => ?_)
  · clear hK K; exact HSB.out _ HBY.out
  clear hK K
  try simp only [List.getElem_toArray, List.getElem_cons_succ, List.getElem_cons_zero, Act.put, List.setIfInBounds_toArray, List.set_cons_zero, List.set_cons_succ]
  refine wpAnyH_ready (rs := [12]) (by kernel_rfl) (by simp) ?_
  refine (AllReadyH.cons rfl (fun K hK => ?_) AllReadyH.nil)
  go_simp
  go_at_call 34; refine (CTO.out _ _ _ HRY.out).mono ?_; rintro e wz ⟨⟨LX, cx, rfl, hr6⟩, hb2⟩
  have hbz : Below w15.heap.size w15 wz := HBY.out.trans (hb2.mono HBY.out.size)
  have HBZ := Lib.hid hbz
  have HLX := Lib.hid hr6
  clear hb2 hbz hr6
  go_wp2_with fail
  refine hK.out _ _ ?_ (fun hHeld => ?_)
  · clear hK K; exact HSB.out _ HBZ.out
  clear hK K
  try simp only [List.getElem_toArray, List.getElem_cons_succ, List.getElem_cons_zero, Act.put, List.setIfInBounds_toArray, List.set_cons_zero, List.set_cons_succ]
  refine wpAnyH_take (i := 13) (v := ?_) rfl (by kernel_rfl) (by kernel_rfl) (by kernel_rfl) (fun _ _ _ h => h) (Or.inl ⟨by rfl, ?_⟩) (by assumption) ?_
  rotate_left
  · intro w hSw; (try dsimp only at hSw); go_simp; (try (with_reducible rfl))
  try simp only [List.getElem_toArray, List.getElem_cons_succ, List.getElem_cons_zero, Act.put, List.setIfInBounds_toArray, List.set_cons_zero, List.set_cons_succ]
  refine wpAnyH_take (i := 14) (v := ?_) rfl (by kernel_rfl) (by kernel_rfl) (by kernel_rfl) (fun _ _ _ h => h) (Or.inl ⟨by rfl, ?_⟩) (by assumption) ?_
  rotate_left
  · intro w hSw; (try dsimp only at hSw); go_simp; (try (with_reducible rfl))
  try simp only [List.getElem_toArray, List.getElem_cons_succ, List.getElem_cons_zero, Act.put, List.setIfInBounds_toArray, List.set_cons_zero, List.set_cons_succ]
  refine wpAnyH_take (i := 15) (v := ?_) rfl (by kernel_rfl) (by kernel_rfl) (by kernel_rfl) (fun _ _ _ h => h) (Or.inl ⟨by rfl, ?_⟩) (by assumption) ?_
  rotate_left
  · intro w hSw; (try dsimp only at hSw); go_simp; (try (with_reducible rfl))
  try simp only [List.getElem_toArray, List.getElem_cons_succ, List.getElem_cons_zero, Act.put, List.setIfInBounds_toArray, List.set_cons_zero, List.set_cons_succ]
  refine wpAnyH_take (i := 16) (v := ?_) rfl (by kernel_rfl) (by kernel_rfl) (by kernel_rfl) (fun _ _ _ h => h) (Or.inl ⟨by rfl, ?_⟩) (by assumption) ?_
  rotate_left
  · intro w hSw; (try dsimp only at hSw); go_simp; (try (with_reducible rfl))
  try simp only [List.getElem_toArray, List.getElem_cons_succ, List.getElem_cons_zero, Act.put, List.setIfInBounds_toArray, List.set_cons_zero, List.set_cons_succ]
  refine wpAnyH_take (i := 17) (v := ?_) rfl (by kernel_rfl) (by kernel_rfl) (by kernel_rfl) (fun _ _ _ h => h) (Or.inl ⟨by rfl, ?_⟩) (by assumption) ?_
  rotate_left
  · intro w hSw; (try dsimp only at hSw); go_simp; (try (with_reducible rfl))
  try simp only [List.getElem_toArray, List.getElem_cons_succ, List.getElem_cons_zero, Act.put, List.setIfInBounds_toArray, List.set_cons_zero, List.set_cons_succ]
  refine wpAnyH_take (i := 18) (v := ?_) rfl (by kernel_rfl) (by kernel_rfl) (by kernel_rfl) (fun _ _ _ h => h) (Or.inl ⟨by rfl, ?_⟩) (by assumption) ?_
  rotate_left
  · intro w hSw; (try dsimp only at hSw); go_simp; (try (with_reducible rfl))
  try simp only [List.getElem_toArray, List.getElem_cons_succ, List.getElem_cons_zero, Act.put, List.setIfInBounds_toArray, List.set_cons_zero, List.set_cons_succ]
  refine wpAnyH_take (i := 19) (v := ?_) rfl (by kernel_rfl) (by kernel_rfl) (by kernel_rfl) (fun _ _ _ h => h) (Or.inl ⟨by rfl, ?_⟩) (by assumption) ?_
  rotate_left
  · intro w hSw; (try dsimp only at hSw); go_simp; (try (with_reducible rfl))
  try simp only [List.getElem_toArray, List.getElem_cons_succ, List.getElem_cons_zero, Act.put, List.setIfInBounds_toArray, List.set_cons_zero, List.set_cons_succ]
  refine wpAnyH_done (by kernel_rfl) ?_ _
  obtain ⟨w16, hw16⟩ : ∃ W, W = wz := ⟨_, rfl⟩
  subst hw16
  clear hHeld HSB HRY HBY y2 y3 y4 y5 y6 n0 n1
  have Ft16 := Lib.hid (Ft15.out.below HBZ.out)
  have Fp16 := Lib.hid (Fp15.out.below HBZ.out)
  have Fr16 := Lib.hid (Fr15.out.below HBZ.out)
  have Fk16 := Lib.hid (Fk15.out.below HBZ.out)
  have Fl16 := Lib.hid (Fl15.out.below HBZ.out)
  have low16 := Lib.hid (low15.out.trans (HBZ.out.mono low15.out.size))
  clear HBZ Ft15 Fp15 Fr15 Fk15 Fl15 Fu15 Fv15 low15
  have n0 : w16.cell? ⟨w.heap.size, 0, none⟩ = some (.slice (some ad) n c) := Ft16.out.c0
  have n1 : w16.cell? ⟨w.heap.size, 1, none⟩ = some (.int .i64 b) := Ft16.out.c1
  go_wp2_with fail
  refine (CIN.out _ _ _ _ _ HLX.out Fl16.out).mono ?_
  rintro e w17 ⟨rfl, hb17⟩
  clear n0 n1
  have Ft17 := Lib.hid (Ft16.out.below hb17)
  have Fp17 := Lib.hid (Fp16.out.below hb17)
  have Fr17 := Lib.hid (Fr16.out.below hb17)
  have Fk17 := Lib.hid (Fk16.out.below hb17)
  have Fl17 := Lib.hid (Fl16.out.below hb17)
  have Fy17 := Lib.hid (HLX.out.below hb17)
  have low17 := Lib.hid (low16.out.trans (hb17.mono low16.out.size))
  clear Ft16 Fp16 Fr16 Fk16 Fl16 HLX low16 hb17
  have n0 : w17.cell? ⟨w.heap.size, 0, none⟩ = some (.slice (some ad) n c) := Ft17.out.c0
  have n1 : w17.cell? ⟨w.heap.size, 1, none⟩ = some (.int .i64 b) := Ft17.out.c1
  go_wp2_with fail
  refine (CCT.out _ Fr17.out).mono ?_
  rintro e w18 ⟨⟨A2, c2', rfl, hr2⟩, hb18⟩
  clear n0 n1
  have Ft18 := Lib.hid (Ft17.out.below hb18)
  have Fp18 := Lib.hid (Fp17.out.below hb18)
  have Fr18 := Lib.hid (Fr17.out.below hb18)
  have Fk18 := Lib.hid (Fk17.out.below hb18)
  have low18 := Lib.hid (low17.out.trans (hb18.mono low17.out.size))
  have Fa18 := Lib.hid hr2
  clear hr2
  clear Ft17 Fp17 Fr17 Fk17 low17 hb18
  have n0 : w18.cell? ⟨w.heap.size, 0, none⟩ = some (.slice (some ad) n c) := Ft18.out.c0
  have n1 : w18.cell? ⟨w.heap.size, 1, none⟩ = some (.int .i64 b) := Ft18.out.c1
  go_wp2_with fail
  refine (CTP.out _ _ _ Fa18.out).mono ?_
  rintro e w19 ⟨⟨vv, rfl⟩, hb19⟩
  clear n0 n1
  have Ft19 := Lib.hid (Ft18.out.below hb19)
  have Fp19 := Lib.hid (Fp18.out.below hb19)
  have Fr19 := Lib.hid (Fr18.out.below hb19)
  have Fk19 := Lib.hid (Fk18.out.below hb19)
  have Fa19 := Lib.hid (Fa18.out.below hb19)
  have low19 := Lib.hid (low18.out.trans (hb19.mono low18.out.size))
  clear Ft18 Fp18 Fr18 Fk18 Fa18 low18 hb19
  have n0 : w19.cell? ⟨w.heap.size, 0, none⟩ = some (.slice (some ad) n c) := Ft19.out.c0
  have n1 : w19.cell? ⟨w.heap.size, 1, none⟩ = some (.int .i64 b) := Ft19.out.c1
  by_cases hE2z : E2 = 0
  · subst hE2z
    have hle : cc ≤ c2 := hfin.resolve_left (fun h => h rfl)
    have hdc : decide (cc ≤ c2) = true := decide_eq_true hle
    clear hfin
    go_wp2
    go_ret
    exact ⟨rfl, low19.out⟩
  · have hEb : (E2 != 0) = true := by simpa using hE2z
    clear hfin hE2z
    go_wp2
    go_ret
    exact ⟨rfl, low19.out⟩

end Go.Proofs.YtofdjapbofagiaaDoor

namespace Go.Proofs.YtofdjapbofagiaaDoor
open Go.RowKit

set_option maxRecDepth 100000 in
set_option maxHeartbeats 16000000 in
theorem proved_oka (ad : Addr) (n c : Nat) (b : Int) (rows : List (List Int)) (Q : Option Addr) (l cq : Nat) (path : List Int) (pitch : Int) (w : World) (hl : LaidSides w) (hr : RdGo w (some ad) n rows) (hQ : Q = none → l = 0 ∧ cq = 0) (hq : RdI w Q l path) (hgb : gridB 40 12 rows = true) (hk : l ≤ 40) (hn42 : n ≤ 42) (hm203 : ∀ j, j < n → (rows.getD j []).length ≤ 203) (m c' : Nat) (B : Option Addr) (hck : CellAt w ad (.slice B m c')) (h : TkOk rows b n m) (htE : taskE rows b = 0) (hcm : colsOf rows = m) (ls : List Int) (cc : Int) (hbest : bestTo (fun _ _ => true) b m rows m = (ls, cc)) (q : Nat) (hnq : n = q + 1) (lz l0 p0 : Int) (hlz : ls.getD q 0 = lz) (hl0 : ls.getD 0 0 = l0) (hp0 : lz - l0 = p0) (E2 c2 : Int) (hE2 : turnE rows b pitch = E2) (hc2 : (turnL rows b pitch).2 = c2) (hfin : E2 ≠ 0 ∨ cc ≤ c2) (hpe : pathE n m path = 0) (v : Int) (hv : costF rows b path n = v) (hlt : cc < v) :
    Calls Tryd.prog 6 #[.agg #[.slice (some ad) n c, .int .i64 b], .slice Q l cq, .int .i64 pitch] w fun e w' => e = .returned (.bool true) ∧ Below w.heap.size w w' := by
  have hb0 : Below w.heap.size w (w.alloc (.cells #[.slice (some ad) n c, .int .i64 b] 53)) := (Below.refl _ _).alloc (Nat.le_refl _) _
  have HL := Lib.hid (hl.later hb0)
  have HT : Hid (TaskAt (w.alloc (.cells #[.slice (some ad) n c, .int .i64 b] 53)) w.heap.size (some ad) n c b) := Bk.new w 53 #[.slice (some ad) n c, .int .i64 b]
  have HRO := Lib.hid (hr.below hb0)
  have HQO := Lib.hid (hq.below hb0)
  have low0 := Lib.hid hb0
  have HRN := Lib.hid ((hr.full hm203).below hb0)
  have HCK := Lib.hid (hck.below hb0)
  have h0n : 0 < n := h.n0
  have hm12 : m ≤ 12 := h.m12
  have hm0 : 0 < m := h.m0
  obtain ⟨b1, b2, b3, b4, b5, b6⟩ := best_spec h hbest
  have hlsn : ls.length = n := (path_in b1).1
  have hbl : bestL rows b = (ls, cc) := by unfold bestL; rw [if_pos htE, hcm]; exact hbest
  have hfirst := nth_nonneg b1 0 h.n0
  have hlast := nth_nonneg b1 q (by omega)
  rw [hl0] at hfirst
  rw [hlz] at hlast
  have hturn : turnT rows b p0 = (ls, cc) := by
    unfold turnT
    rw [hcm]
    exact turn_own _ h hbest (decide_eq_true (by rw [show n - 1 = q by omega, hl0, hlz]; omega))
  have hturnE : turnE rows b p0 = 0 := by
    unfold turnE
    rw [if_pos htE, if_pos (by unfold fromB; simp; omega), hturn, if_neg (by dsimp only; omega)]
  have hturnL : turnL rows b p0 = (ls, cc) := by unfold turnL; rw [if_pos hturnE, hturn]
  have hkI : ¬ (40 : Int) < (l : Int) := by omega
  have hcE : (cc != cc) = false := by simp
  have hcq : (cc == cc) = true := by simp
  have hccl : decide (cc < cc) = false := decide_eq_false (by omega)
  have hccn : ¬ cc < cc := by omega
  have CST : Hid (∀ W, RdGo W (some ad) n rows → Calls Tryd.prog 19 #[.slice (some ad) n c] W fun e w' => e = .returned (.bool true) ∧ W = w') := fun W h => by rw [← hgb]; exact strip_any _ n c rows W h
  have CTE : Hid (∀ W, RdGN W (some ad) n rows → Calls Tryd.prog 27 #[.agg #[.slice (some ad) n c, .int .i64 b]] W fun e w' => e = .returned (.int .i64 0) ∧ Below W.heap.size W w') := fun W h => by rw [← htE]; exact refTaskErr_any _ n c rows b W h.toG (by omega)
  have CCT : Hid (∀ W, RdGN W (some ad) n rows → Calls Tryd.prog 21 #[.agg #[.slice (some ad) n c, .int .i64 b]] W fun e w' => (∃ A' c', e = .returned (.agg #[.slice A' n c', .int .i64 b]) ∧ RdGN w' A' n rows) ∧ Below W.heap.size W w') := fun W h => copyTask_any _ n c rows b W h (by omega) hm203
  have CBP : Hid (∀ W A' c', RdGN W A' n rows → Calls Tryd.prog 33 #[.agg #[.slice A' n c', .int .i64 b]] W fun e w' => (∃ la cl, e = .returned (.tuple #[.slice (some la) n cl, .int .i64 cc, .int .i64 0]) ∧ RdI w' (some la) n ls ∧ CellAt w' (la.add q) (.int .i64 lz) ∧ CellAt w' la (.int .i64 l0)) ∧ Below W.heap.size W w') := fun W A' c' h1 => by
    have h2 := BestPath_any A' n c' rows b W h1.toG (by omega)
    rw [hbl, htE] at h2
    refine h2.mono ?_
    rintro e w' ⟨⟨v, he, ho⟩, hb⟩
    dsimp only at ho
    rw [hlsn] at ho
    obtain ⟨L, cl, rfl, _, h3⟩ := rd_of_own ho
    obtain ⟨la, rfl, hlt, hcell⟩ := h3.2 h0n
    have k0 := hcell 0 h0n
    rw [addZ, hl0] at k0
    have k1 := hcell q (by omega)
    rw [hlz] at k1
    exact ⟨⟨la, cl, he, h3, ⟨by rw [addBlock]; exact hlt, k1⟩, ⟨hlt, k0⟩⟩, hb⟩
  obtain ⟨X, hX⟩ : ∃ X, prTo rows b m n = X := ⟨_, rfl⟩
  have hXok : pricesE rows b n m X = 0 := by rw [← hX]; exact prTo_ok h
  have hXbd : boundF X = cc := by rw [← hX]; exact prTo_bound h hbest
  have hXlen : X.length = n := by rw [← hX]; exact prTo_length n
  have hXrow : ∀ r ∈ X, r.length = m := fun r hr => ((prices_parts hXok).2.1 r hr).1
  have hX203 : ∀ j, j < n → (X.getD j []).length ≤ 203 := fun j hj => by rw [hXrow _ (getD_in X j [] (by omega))]; omega
  have CPR : Hid (∀ W A' c', RdGN W A' n rows → Calls Tryd.prog 37 #[.agg #[.slice A' n c', .int .i64 b]] W fun e w' => (∃ A', e = .returned (.tuple #[.slice A' n n, .int .i64 0]) ∧ RdGN w' A' n X) ∧ Below W.heap.size W w') := fun W A' c' h1 => by
    have h2 := Prices_ok A' n c' rows b m W h1.toG (by omega) htE hcm
    rw [hX] at h2
    exact h2
  have CPE : Hid (∀ W L cl, CellAt W ad (.slice B m c') → RdI W L n ls → Calls Tryd.prog 28 #[.agg #[.slice (some ad) n c, .int .i64 b], .slice L n cl] W fun e w' => e = .returned (.int .i64 0) ∧ Below W.heap.size W w') := fun W L cl h1 h2 => by
    have h3 := refPathErr_any ad n c m c' B b L n cl ls W ⟨h0n, by omega⟩ (by omega) (by omega) h1.1 h1.2 h2
    rw [b1] at h3
    exact h3
  have CCO : Hid (∀ W L cl, RdGN W (some ad) n rows → RdI W L n ls → Calls Tryd.prog 29 #[.agg #[.slice (some ad) n c, .int .i64 b], .slice L n cl] W fun e w' => e = .returned (.int .i64 cc) ∧ Below W.heap.size W w') := fun W L cl h1 h2 => by
    have h3 := refCost_any ad n c m rows b L cl ls W h1.toG ⟨h0n, by omega⟩ (by omega) h2 b1 h.row h.bb
    rw [b2] at h3
    exact h3
  have CPX : Hid (∀ W P' c2, CellAt W ad (.slice B m c') → RdGN W (some ad) n rows → RdGN W P' n X → Calls Tryd.prog 38 #[.agg #[.slice (some ad) n c, .int .i64 b], .slice P' n c2] W fun e w' => e = .returned (.int .i64 0) ∧ Below W.heap.size W w') := fun W P' c2 h1 h2 h3 => by
    have h4 := refPricesErr_any ad n c m c' B rows b P' n c2 X W h2.toG ⟨h0n, by omega⟩ ⟨hm0, by omega⟩ h1.1 h1.2 h3.toG (by omega) h.bb h.row
    rw [hXok] at h4
    exact h4
  have CBD : Hid (∀ W P' c2, RdGN W P' n X → Calls Tryd.prog 39 #[.slice P' n c2] W fun e w' => e = .returned (.int .i64 cc) ∧ W = w') := fun W P' c2 h1 => by
    have h2 := refBound_any P' n c2 m X W h1.toG (by omega) ⟨hm0, by omega⟩ hXrow
    rw [hXbd] at h2
    exact h2
  have CCL : Hid (∀ W P' c2, RdGN W P' n X → Calls Tryd.prog 25 #[.slice P' n c2] W fun e w' => (∃ A' c', e = .returned (.slice A' n c') ∧ RdGN w' A' n X) ∧ Below W.heap.size W w') := fun W P' c2 h1 => by
    refine (copyLists_any _ n c2 X W h1 (by omega) hX203).mono ?_
    rintro e w' ⟨⟨v, he, ho⟩, hb⟩
    obtain ⟨A', c', e2, h2⟩ := ho.read hXlen hX203
    exact ⟨⟨A', c', by rw [he, e2], h2⟩, hb⟩
  have CCP : Hid (∀ W A' c' P' cp', RdGN W A' n rows → RdGN W P' n X → Calls Tryd.prog 40 #[.agg #[.slice A' n c', .int .i64 b], .slice P' n cp'] W fun e w' => e = .returned (.tuple #[.int .i64 cc, .int .i64 0]) ∧ Below W.heap.size W w') := fun W A' c' P' cp' h1 h2 => by
    have h3 := CheckPrices_any A' n c' rows b P' n cp' X W h1.toG (by omega) h2.toG (by omega)
    have hc : cpE rows b n X = 0 := by unfold cpE; rw [if_pos htE, hcm]; exact hXok
    rw [hc, if_pos rfl, hXbd] at h3
    exact h3
  have HQN := Lib.hid hQ
  have CCI : Hid (∀ W, RdI W Q l path → Calls Tryd.prog 22 #[.slice Q l cq] W fun e w' => (∃ A' c', e = .returned (.slice A' l c') ∧ RdI w' A' l path) ∧ Below W.heap.size W w') := fun W h1 => by
    refine (copyInts_any Q l cq path W HQN.out h1 (by omega)).mono ?_
    rintro e w' ⟨⟨v, he, ho⟩, hb⟩
    have hpl : path.length = l := h1.1
    rw [hpl] at ho
    obtain ⟨A', c', rfl, _, h3⟩ := rd_of_own ho
    exact ⟨⟨A', c', he, h3⟩, hb⟩
  have CCS : Hid (∀ W A' c' P' cp', RdGN W A' n rows → RdI W P' l path → Calls Tryd.prog 20 #[.agg #[.slice A' n c', .int .i64 b], .slice P' l cp'] W fun e w' => e = .returned (.tuple #[.int .i64 v, .int .i64 0]) ∧ Below W.heap.size W w') := fun W A' c' P' cp' h1 h2 => by
    have h3 := CostOf_any A' n c' rows b P' l cp' path W h1.toG (by omega) h2 (by omega)
    have hc : cstE rows b n path = pathE n m path := by unfold cstE; rw [if_pos htE, hcm]
    rw [hc, hpe, if_pos rfl, hv] at h3
    exact h3
  have CTO : Hid (∀ W A' c', RdGN W A' n rows → Calls Tryd.prog 34 #[.agg #[.slice A' n c', .int .i64 b], .int .i64 p0] W fun e w' => (∃ L cl, e = .returned (.tuple #[.slice L n cl, .int .i64 cc, .int .i64 0]) ∧ RdI w' L n ls) ∧ Below W.heap.size W w') := fun W A' c' h1 => by
    have h2 := TurnPath_any A' n c' rows b p0 W h1.toG (by omega)
    rw [hturnE, hturnL] at h2
    refine h2.mono ?_
    rintro e w' ⟨⟨v, he, ho⟩, hb⟩
    dsimp only at ho
    rw [hlsn] at ho
    obtain ⟨L, cl, rfl, _, h3⟩ := rd_of_own ho
    exact ⟨⟨L, cl, he, h3⟩, hb⟩
  have CTP : Hid (∀ W A' c', RdGN W A' n rows → Calls Tryd.prog 34 #[.agg #[.slice A' n c', .int .i64 b], .int .i64 pitch] W fun e w' => (∃ v, e = .returned (.tuple #[v, .int .i64 c2, .int .i64 E2])) ∧ Below W.heap.size W w') := fun W A' c' h1 => by
    have h2 := TurnPath_any A' n c' rows b pitch W h1.toG (by omega)
    rw [hE2, hc2] at h2
    refine h2.mono ?_
    rintro e w' ⟨⟨v, he, ho⟩, hb⟩
    exact ⟨⟨v, he⟩, hb⟩
  have CIN : Hid (∀ W L cl L' cl', RdI W L n ls → RdI W L' n ls → Calls Tryd.prog 16 #[.slice L n cl, .slice L' n cl'] W fun e w' => e = .returned (.bool true) ∧ Below W.heap.size W w') := fun W L cl L' cl' h1 h2 => by
    refine (ints_any L L' n n cl cl' ls ls W h1 h2 (by omega) (by omega)).mono ?_
    rintro e w' ⟨he, k, rfl⟩
    exact ⟨by rw [he, decide_eq_true rfl], belowDrewN (Below.refl _ _) _⟩
  have hz1 : IntKind.i64.wrap ((n : Int) - 1) = (q : Int) := by rw [show (n : Int) - 1 = (q : Int) by omega]; exact IntWalk.i64_in _ (by omega)
  have hz2 : IntKind.i64.wrap (lz - l0) = p0 := by rw [hp0]; exact IntWalk.i64_in _ (by omega)
  have hz3 : (0 : Int) ≤ (q : Int) := by omega
  have hz4 : (q : Int) < (n : Int) := by omega
  have hz5 : (0 : Int) < (n : Int) := by omega
  have hv1 : decide (v < cc) = false := decide_eq_false (by omega)
  have hv2 : ¬ v < cc := by omega
  have hv3 : (v == cc) = false := by rw [beq_eq_false_iff_ne]; omega
  clear hl hr hQ hq hb0 hgb hm203 htE hck h hcm hbest hlz hl0 hp0 hE2 hc2 b1 b2 b3 b4 b5 b6 hlsn hbl hfirst hlast hturn hturnE hturnL hX hXok hXbd hXlen hXrow hX203 hnq hm12 hm0 hpe hv
  go_enter Tryd.func6, Tryd.ntmps6
  go_wp2_with fail
  refine (awake_any _ HL.out).mono ?_
  rintro e w1 ⟨rfl, hb1⟩
  have Ft1 := Lib.hid (HT.out.below hb1)
  have Fo1 := Lib.hid (HRO.out.below hb1)
  have Fp1 := Lib.hid (HQO.out.below hb1)
  have Fr1 := Lib.hid (HRN.out.below hb1)
  have Fk1 := Lib.hid (HCK.out.below hb1)
  have low1 := Lib.hid (low0.out.trans (hb1.mono low0.out.size))
  clear HT HRO HQO HRN HCK low0 HL hb1
  have n0 : w1.cell? ⟨w.heap.size, 0, none⟩ = some (.slice (some ad) n c) := Ft1.out.c0
  have n1 : w1.cell? ⟨w.heap.size, 1, none⟩ = some (.int .i64 b) := Ft1.out.c1
  go_wp2_with fail
  refine (CST.out _ Fo1.out).mono ?_
  rintro e w' ⟨rfl, rfl⟩
  go_wp2_with fail
  refine (CTE.out _ Fr1.out).mono ?_
  rintro e w2 ⟨rfl, hb2⟩
  clear n0 n1
  have Ft2 := Lib.hid (Ft1.out.below hb2)
  have Fp2 := Lib.hid (Fp1.out.below hb2)
  have Fr2 := Lib.hid (Fr1.out.below hb2)
  have Fk2 := Lib.hid (Fk1.out.below hb2)
  have low2 := Lib.hid (low1.out.trans (hb2.mono low1.out.size))
  clear Ft1 Fp1 Fr1 Fk1 low1 hb2
  have n0 : w2.cell? ⟨w.heap.size, 0, none⟩ = some (.slice (some ad) n c) := Ft2.out.c0
  have n1 : w2.cell? ⟨w.heap.size, 1, none⟩ = some (.int .i64 b) := Ft2.out.c1
  go_wp2_with fail
  refine (CCT.out _ Fr2.out).mono ?_
  rintro e w3 ⟨⟨A2, c2', rfl, hr2⟩, hb3⟩
  clear n0 n1
  have Ft3 := Lib.hid (Ft2.out.below hb3)
  have Fp3 := Lib.hid (Fp2.out.below hb3)
  have Fr3 := Lib.hid (Fr2.out.below hb3)
  have Fk3 := Lib.hid (Fk2.out.below hb3)
  have low3 := Lib.hid (low2.out.trans (hb3.mono low2.out.size))
  have Fa3 := Lib.hid hr2
  clear hr2
  clear Ft2 Fp2 Fr2 Fk2 low2 hb3
  have n0 : w3.cell? ⟨w.heap.size, 0, none⟩ = some (.slice (some ad) n c) := Ft3.out.c0
  have n1 : w3.cell? ⟨w.heap.size, 1, none⟩ = some (.int .i64 b) := Ft3.out.c1
  go_wp2_with fail
  refine (CBP.out _ _ _ Fa3.out).mono ?_
  rintro e w4 ⟨⟨la, cl, rfl, hr3, hr4, hr5⟩, hb4⟩
  clear n0 n1
  have Ft4 := Lib.hid (Ft3.out.below hb4)
  have Fp4 := Lib.hid (Fp3.out.below hb4)
  have Fr4 := Lib.hid (Fr3.out.below hb4)
  have Fk4 := Lib.hid (Fk3.out.below hb4)
  have Fa4 := Lib.hid (Fa3.out.below hb4)
  have low4 := Lib.hid (low3.out.trans (hb4.mono low3.out.size))
  have Fl4 := Lib.hid hr3
  have Fu4 := Lib.hid hr4
  have Fv4 := Lib.hid hr5
  clear hr3 hr4 hr5
  clear Ft3 Fp3 Fr3 Fk3 Fa3 low3 hb4
  have n0 : w4.cell? ⟨w.heap.size, 0, none⟩ = some (.slice (some ad) n c) := Ft4.out.c0
  have n1 : w4.cell? ⟨w.heap.size, 1, none⟩ = some (.int .i64 b) := Ft4.out.c1
  go_wp2_with fail
  refine (CCT.out _ Fr4.out).mono ?_
  rintro e w5 ⟨⟨A2, c2', rfl, hr2⟩, hb5⟩
  clear n0 n1
  have Ft5 := Lib.hid (Ft4.out.below hb5)
  have Fp5 := Lib.hid (Fp4.out.below hb5)
  have Fr5 := Lib.hid (Fr4.out.below hb5)
  have Fk5 := Lib.hid (Fk4.out.below hb5)
  have Fl5 := Lib.hid (Fl4.out.below hb5)
  have Fu5 := Lib.hid (Fu4.out.below hb5)
  have Fv5 := Lib.hid (Fv4.out.below hb5)
  have low5 := Lib.hid (low4.out.trans (hb5.mono low4.out.size))
  have Fa5 := Lib.hid hr2
  clear hr2
  clear Ft4 Fp4 Fr4 Fk4 Fl4 Fu4 Fv4 low4 hb5
  have n0 : w5.cell? ⟨w.heap.size, 0, none⟩ = some (.slice (some ad) n c) := Ft5.out.c0
  have n1 : w5.cell? ⟨w.heap.size, 1, none⟩ = some (.int .i64 b) := Ft5.out.c1
  go_wp2_with fail
  refine (CPR.out _ _ _ Fa5.out).mono ?_
  rintro e w6 ⟨⟨PX, rfl, hr3⟩, hb6⟩
  clear n0 n1
  have Ft6 := Lib.hid (Ft5.out.below hb6)
  have Fp6 := Lib.hid (Fp5.out.below hb6)
  have Fr6 := Lib.hid (Fr5.out.below hb6)
  have Fk6 := Lib.hid (Fk5.out.below hb6)
  have Fl6 := Lib.hid (Fl5.out.below hb6)
  have Fu6 := Lib.hid (Fu5.out.below hb6)
  have Fv6 := Lib.hid (Fv5.out.below hb6)
  have Fa6 := Lib.hid (Fa5.out.below hb6)
  have low6 := Lib.hid (low5.out.trans (hb6.mono low5.out.size))
  have Fx6 := Lib.hid hr3
  clear hr3
  clear Ft5 Fp5 Fr5 Fk5 Fl5 Fu5 Fv5 Fa5 low5 hb6
  have n0 : w6.cell? ⟨w.heap.size, 0, none⟩ = some (.slice (some ad) n c) := Ft6.out.c0
  have n1 : w6.cell? ⟨w.heap.size, 1, none⟩ = some (.int .i64 b) := Ft6.out.c1
  go_wp2_with fail
  refine (CPE.out _ _ _ Fk6.out Fl6.out).mono ?_
  rintro e w7 ⟨rfl, hb7⟩
  clear n0 n1
  have Ft7 := Lib.hid (Ft6.out.below hb7)
  have Fp7 := Lib.hid (Fp6.out.below hb7)
  have Fr7 := Lib.hid (Fr6.out.below hb7)
  have Fk7 := Lib.hid (Fk6.out.below hb7)
  have Fl7 := Lib.hid (Fl6.out.below hb7)
  have Fu7 := Lib.hid (Fu6.out.below hb7)
  have Fv7 := Lib.hid (Fv6.out.below hb7)
  have Fx7 := Lib.hid (Fx6.out.below hb7)
  have low7 := Lib.hid (low6.out.trans (hb7.mono low6.out.size))
  clear Ft6 Fp6 Fr6 Fk6 Fl6 Fu6 Fv6 Fx6 low6 hb7
  have n0 : w7.cell? ⟨w.heap.size, 0, none⟩ = some (.slice (some ad) n c) := Ft7.out.c0
  have n1 : w7.cell? ⟨w.heap.size, 1, none⟩ = some (.int .i64 b) := Ft7.out.c1
  go_wp2_with fail
  refine (CCO.out _ _ _ Fr7.out Fl7.out).mono ?_
  rintro e w8 ⟨rfl, hb8⟩
  clear n0 n1
  have Ft8 := Lib.hid (Ft7.out.below hb8)
  have Fp8 := Lib.hid (Fp7.out.below hb8)
  have Fr8 := Lib.hid (Fr7.out.below hb8)
  have Fk8 := Lib.hid (Fk7.out.below hb8)
  have Fl8 := Lib.hid (Fl7.out.below hb8)
  have Fu8 := Lib.hid (Fu7.out.below hb8)
  have Fv8 := Lib.hid (Fv7.out.below hb8)
  have Fx8 := Lib.hid (Fx7.out.below hb8)
  have low8 := Lib.hid (low7.out.trans (hb8.mono low7.out.size))
  clear Ft7 Fp7 Fr7 Fk7 Fl7 Fu7 Fv7 Fx7 low7 hb8
  have n0 : w8.cell? ⟨w.heap.size, 0, none⟩ = some (.slice (some ad) n c) := Ft8.out.c0
  have n1 : w8.cell? ⟨w.heap.size, 1, none⟩ = some (.int .i64 b) := Ft8.out.c1
  go_wp2_with fail
  refine (CPX.out _ _ _ Fk8.out Fr8.out Fx8.out).mono ?_
  rintro e w9 ⟨rfl, hb9⟩
  clear n0 n1
  have Ft9 := Lib.hid (Ft8.out.below hb9)
  have Fp9 := Lib.hid (Fp8.out.below hb9)
  have Fr9 := Lib.hid (Fr8.out.below hb9)
  have Fk9 := Lib.hid (Fk8.out.below hb9)
  have Fl9 := Lib.hid (Fl8.out.below hb9)
  have Fu9 := Lib.hid (Fu8.out.below hb9)
  have Fv9 := Lib.hid (Fv8.out.below hb9)
  have Fx9 := Lib.hid (Fx8.out.below hb9)
  have low9 := Lib.hid (low8.out.trans (hb9.mono low8.out.size))
  clear Ft8 Fp8 Fr8 Fk8 Fl8 Fu8 Fv8 Fx8 low8 hb9
  have n0 : w9.cell? ⟨w.heap.size, 0, none⟩ = some (.slice (some ad) n c) := Ft9.out.c0
  have n1 : w9.cell? ⟨w.heap.size, 1, none⟩ = some (.int .i64 b) := Ft9.out.c1
  go_wp2_with fail
  refine (CBD.out _ _ _ Fx9.out).mono ?_
  rintro e w' ⟨rfl, rfl⟩
  go_wp2_with fail
  refine (CCT.out _ Fr9.out).mono ?_
  rintro e w10 ⟨⟨A2, c2', rfl, hr2⟩, hb10⟩
  clear n0 n1
  have Ft10 := Lib.hid (Ft9.out.below hb10)
  have Fp10 := Lib.hid (Fp9.out.below hb10)
  have Fr10 := Lib.hid (Fr9.out.below hb10)
  have Fk10 := Lib.hid (Fk9.out.below hb10)
  have Fl10 := Lib.hid (Fl9.out.below hb10)
  have Fu10 := Lib.hid (Fu9.out.below hb10)
  have Fv10 := Lib.hid (Fv9.out.below hb10)
  have Fx10 := Lib.hid (Fx9.out.below hb10)
  have low10 := Lib.hid (low9.out.trans (hb10.mono low9.out.size))
  have Fa10 := Lib.hid hr2
  clear hr2
  clear Ft9 Fp9 Fr9 Fk9 Fl9 Fu9 Fv9 Fx9 low9 hb10
  have n0 : w10.cell? ⟨w.heap.size, 0, none⟩ = some (.slice (some ad) n c) := Ft10.out.c0
  have n1 : w10.cell? ⟨w.heap.size, 1, none⟩ = some (.int .i64 b) := Ft10.out.c1
  go_wp2_with fail
  refine (CCL.out _ _ _ Fx10.out).mono ?_
  rintro e w11 ⟨⟨P3, c3, rfl, hr3⟩, hb11⟩
  clear n0 n1
  have Ft11 := Lib.hid (Ft10.out.below hb11)
  have Fp11 := Lib.hid (Fp10.out.below hb11)
  have Fr11 := Lib.hid (Fr10.out.below hb11)
  have Fk11 := Lib.hid (Fk10.out.below hb11)
  have Fl11 := Lib.hid (Fl10.out.below hb11)
  have Fu11 := Lib.hid (Fu10.out.below hb11)
  have Fv11 := Lib.hid (Fv10.out.below hb11)
  have Fx11 := Lib.hid (Fx10.out.below hb11)
  have Fa11 := Lib.hid (Fa10.out.below hb11)
  have low11 := Lib.hid (low10.out.trans (hb11.mono low10.out.size))
  have Fq11 := Lib.hid hr3
  clear hr3
  clear Ft10 Fp10 Fr10 Fk10 Fl10 Fu10 Fv10 Fx10 Fa10 low10 hb11
  have n0 : w11.cell? ⟨w.heap.size, 0, none⟩ = some (.slice (some ad) n c) := Ft11.out.c0
  have n1 : w11.cell? ⟨w.heap.size, 1, none⟩ = some (.int .i64 b) := Ft11.out.c1
  go_wp2_with fail
  refine (CCP.out _ _ _ _ _ Fa11.out Fq11.out).mono ?_
  rintro e w12 ⟨rfl, hb12⟩
  clear n0 n1
  have Ft12 := Lib.hid (Ft11.out.below hb12)
  have Fp12 := Lib.hid (Fp11.out.below hb12)
  have Fr12 := Lib.hid (Fr11.out.below hb12)
  have Fk12 := Lib.hid (Fk11.out.below hb12)
  have Fl12 := Lib.hid (Fl11.out.below hb12)
  have Fu12 := Lib.hid (Fu11.out.below hb12)
  have Fv12 := Lib.hid (Fv11.out.below hb12)
  have Fx12 := Lib.hid (Fx11.out.below hb12)
  have Fa12 := Lib.hid (Fa11.out.below hb12)
  have Fq12 := Lib.hid (Fq11.out.below hb12)
  have low12 := Lib.hid (low11.out.trans (hb12.mono low11.out.size))
  clear Ft11 Fp11 Fr11 Fk11 Fl11 Fu11 Fv11 Fx11 Fa11 Fq11 low11 hb12
  have n0 : w12.cell? ⟨w.heap.size, 0, none⟩ = some (.slice (some ad) n c) := Ft12.out.c0
  have n1 : w12.cell? ⟨w.heap.size, 1, none⟩ = some (.int .i64 b) := Ft12.out.c1
  go_wp2_with fail
  refine (CCT.out _ Fr12.out).mono ?_
  rintro e w13 ⟨⟨A2, c2', rfl, hr2⟩, hb13⟩
  clear n0 n1
  have Ft13 := Lib.hid (Ft12.out.below hb13)
  have Fp13 := Lib.hid (Fp12.out.below hb13)
  have Fr13 := Lib.hid (Fr12.out.below hb13)
  have Fk13 := Lib.hid (Fk12.out.below hb13)
  have Fl13 := Lib.hid (Fl12.out.below hb13)
  have Fu13 := Lib.hid (Fu12.out.below hb13)
  have Fv13 := Lib.hid (Fv12.out.below hb13)
  have low13 := Lib.hid (low12.out.trans (hb13.mono low12.out.size))
  have Fa13 := Lib.hid hr2
  clear hr2
  clear Ft12 Fp12 Fr12 Fk12 Fl12 Fu12 Fv12 low12 hb13
  have n0 : w13.cell? ⟨w.heap.size, 0, none⟩ = some (.slice (some ad) n c) := Ft13.out.c0
  have n1 : w13.cell? ⟨w.heap.size, 1, none⟩ = some (.int .i64 b) := Ft13.out.c1
  go_wp2_with fail
  refine (CCI.out _ Fp13.out).mono ?_
  rintro e w14 ⟨⟨P4, c4, rfl, hr3⟩, hb14⟩
  clear n0 n1
  have Ft14 := Lib.hid (Ft13.out.below hb14)
  have Fp14 := Lib.hid (Fp13.out.below hb14)
  have Fr14 := Lib.hid (Fr13.out.below hb14)
  have Fk14 := Lib.hid (Fk13.out.below hb14)
  have Fl14 := Lib.hid (Fl13.out.below hb14)
  have Fu14 := Lib.hid (Fu13.out.below hb14)
  have Fv14 := Lib.hid (Fv13.out.below hb14)
  have Fa14 := Lib.hid (Fa13.out.below hb14)
  have low14 := Lib.hid (low13.out.trans (hb14.mono low13.out.size))
  have Fi14 := Lib.hid hr3
  clear hr3
  clear Ft13 Fp13 Fr13 Fk13 Fl13 Fu13 Fv13 Fa13 low13 hb14
  have n0 : w14.cell? ⟨w.heap.size, 0, none⟩ = some (.slice (some ad) n c) := Ft14.out.c0
  have n1 : w14.cell? ⟨w.heap.size, 1, none⟩ = some (.int .i64 b) := Ft14.out.c1
  go_wp2_with fail
  refine (CCS.out _ _ _ _ _ Fa14.out Fi14.out).mono ?_
  rintro e w15 ⟨rfl, hb15⟩
  clear n0 n1
  have Ft15 := Lib.hid (Ft14.out.below hb15)
  have Fp15 := Lib.hid (Fp14.out.below hb15)
  have Fr15 := Lib.hid (Fr14.out.below hb15)
  have Fk15 := Lib.hid (Fk14.out.below hb15)
  have Fl15 := Lib.hid (Fl14.out.below hb15)
  have Fu15 := Lib.hid (Fu14.out.below hb15)
  have Fv15 := Lib.hid (Fv14.out.below hb15)
  have Fa15 := Lib.hid (Fa14.out.below hb15)
  have Fi15 := Lib.hid (Fi14.out.below hb15)
  have low15 := Lib.hid (low14.out.trans (hb15.mono low14.out.size))
  clear Ft14 Fp14 Fr14 Fk14 Fl14 Fu14 Fv14 Fa14 Fi14 low14 hb15
  have n0 : w15.cell? ⟨w.heap.size, 0, none⟩ = some (.slice (some ad) n c) := Ft15.out.c0
  have n1 : w15.cell? ⟨w.heap.size, 1, none⟩ = some (.int .i64 b) := Ft15.out.c1
  have y2 := Fu15.out.2
  have y3 := Fv15.out.2
  have y4 : w.heap.size < w15.heap.size := Ft15.out.lt
  have y5 : (la.add q).block < w15.heap.size := Fu15.out.1
  have y6 : la.block < w15.heap.size := Fv15.out.1
  have HSB : Hid (∀ W, Below w15.heap.size w15 W → (fun w' : World => w'.cell? ⟨w.heap.size, 0, none⟩ = some (.slice (some ad) n c) ∧ w'.cell? ⟨w.heap.size, 1, none⟩ = some (.int .i64 b) ∧ w'.cell? (la.add q) = some (.int .i64 lz) ∧ w'.cell? la = some (.int .i64 l0) ∧ Below w15.heap.size w15 w') W) := fun W hb => ⟨(hb.cell (p := ⟨w.heap.size, 0, none⟩) y4).trans n0, (hb.cell (p := ⟨w.heap.size, 1, none⟩) y4).trans n1, (hb.cell y5).trans y2, (hb.cell y6).trans y3, hb⟩
  go_wp2_with fail
  refine wp_region_held_drew (S := (fun w' : World => w'.cell? ⟨w.heap.size, 0, none⟩ = some (.slice (some ad) n c) ∧ w'.cell? ⟨w.heap.size, 1, none⟩ = some (.int .i64 b) ∧ w'.cell? (la.add q) = some (.int .i64 lz) ∧ w'.cell? la = some (.int .i64 l0) ∧ Below w15.heap.size w15 w')) (by kernel_rfl) ?_ ?_
  · exact HSB.out _ (Below.refl _ _).drew
  intro hHeld
  refine wpAnyH_take (i := 0) (v := ?_) rfl (by kernel_rfl) (by kernel_rfl) (by kernel_rfl) (fun _ _ _ h => h) (Or.inl ⟨by rfl, ?_⟩) (by assumption) ?_
  rotate_left
  · intro w hSw; (try dsimp only at hSw); go_simp; (try (with_reducible rfl))
  try simp only [List.getElem_toArray, List.getElem_cons_succ, List.getElem_cons_zero, Act.put, List.setIfInBounds_toArray, List.set_cons_zero, List.set_cons_succ]
  refine wpAnyH_take (i := 2) (v := ?_) rfl (by kernel_rfl) (by kernel_rfl) (by kernel_rfl) (fun _ _ _ h => h) (Or.inl ⟨by rfl, ?_⟩) (by assumption) ?_
  rotate_left
  · intro w hSw; (try dsimp only at hSw); go_simp; (try (with_reducible rfl))
  try simp only [List.getElem_toArray, List.getElem_cons_succ, List.getElem_cons_zero, Act.put, List.setIfInBounds_toArray, List.set_cons_zero, List.set_cons_succ]
  refine wpAnyH_take (i := 3) (v := ?_) rfl (by kernel_rfl) (by kernel_rfl) (by kernel_rfl) (fun _ _ _ h => h) (Or.inl ⟨by rfl, ?_⟩) (by assumption) ?_
  rotate_left
  · intro w hSw; (try dsimp only at hSw); go_simp; (try (with_reducible rfl))
  try simp only [List.getElem_toArray, List.getElem_cons_succ, List.getElem_cons_zero, Act.put, List.setIfInBounds_toArray, List.set_cons_zero, List.set_cons_succ]
  refine wpAnyH_take (i := 4) (v := ?_) rfl (by kernel_rfl) (by kernel_rfl) (by kernel_rfl) (fun _ _ _ h => h) (Or.inl ⟨by rfl, ?_⟩) (by assumption) ?_
  rotate_left
  · intro w hSw; (try dsimp only at hSw); go_simp; (try (with_reducible rfl))
  try simp only [List.getElem_toArray, List.getElem_cons_succ, List.getElem_cons_zero, Act.put, List.setIfInBounds_toArray, List.set_cons_zero, List.set_cons_succ]
  refine wpAnyH_take (i := 5) (v := ?_) rfl (by kernel_rfl) (by kernel_rfl) (by kernel_rfl) (fun _ _ _ h => h) (Or.inl ⟨by rfl, ?_⟩) (by assumption) ?_
  rotate_left
  · intro w hSw; (try dsimp only at hSw); go_simp; (try (with_reducible rfl))
  try simp only [List.getElem_toArray, List.getElem_cons_succ, List.getElem_cons_zero, Act.put, List.setIfInBounds_toArray, List.set_cons_zero, List.set_cons_succ]
  refine wpAnyH_take (i := 6) (v := ?_) rfl (by kernel_rfl) (by kernel_rfl) (by kernel_rfl) (fun _ _ _ h => h) (Or.inl ⟨by rfl, ?_⟩) (by assumption) ?_
  rotate_left
  · intro w hSw; (try dsimp only at hSw); go_simp; (try (with_reducible rfl))
  try simp only [List.getElem_toArray, List.getElem_cons_succ, List.getElem_cons_zero, Act.put, List.setIfInBounds_toArray, List.set_cons_zero, List.set_cons_succ]
  refine wpAnyH_take (i := 7) (v := ?_) rfl (by kernel_rfl) (by kernel_rfl) (by kernel_rfl) (fun _ _ _ h => h) (Or.inl ⟨by rfl, ?_⟩) (by assumption) ?_
  rotate_left
  · intro w hSw; (try dsimp only at hSw); go_simp; (try (with_reducible rfl))
  try simp only [List.getElem_toArray, List.getElem_cons_succ, List.getElem_cons_zero, Act.put, List.setIfInBounds_toArray, List.set_cons_zero, List.set_cons_succ]
  refine wpAnyH_take (i := 8) (v := ?_) rfl (by kernel_rfl) (by kernel_rfl) (by kernel_rfl) (fun _ _ _ h => h) (Or.inl ⟨by rfl, ?_⟩) (by assumption) ?_
  rotate_left
  · intro w hSw; (try dsimp only at hSw); go_simp; (try (with_reducible rfl))
  try simp only [List.getElem_toArray, List.getElem_cons_succ, List.getElem_cons_zero, Act.put, List.setIfInBounds_toArray, List.set_cons_zero, List.set_cons_succ]
  refine wpAnyH_take (i := 9) (v := ?_) rfl (by kernel_rfl) (by kernel_rfl) (by kernel_rfl) (fun _ _ _ h => h) (Or.inl ⟨by rfl, ?_⟩) (by assumption) ?_
  rotate_left
  · intro w hSw; (try dsimp only at hSw); go_simp; (try (with_reducible rfl))
  try simp only [List.getElem_toArray, List.getElem_cons_succ, List.getElem_cons_zero, Act.put, List.setIfInBounds_toArray, List.set_cons_zero, List.set_cons_succ]
  refine wpAnyH_take (i := 10) (v := ?_) rfl (by kernel_rfl) (by kernel_rfl) (by kernel_rfl) (fun _ _ _ h => h) (Or.inl ⟨by rfl, ?_⟩) (by assumption) ?_
  rotate_left
  · intro w hSw; (try dsimp only at hSw); go_simp; (try (with_reducible rfl))
  try simp only [List.getElem_toArray, List.getElem_cons_succ, List.getElem_cons_zero, Act.put, List.setIfInBounds_toArray, List.set_cons_zero, List.set_cons_succ]
  refine wpAnyH_take (i := 11) (v := ?_) rfl (by kernel_rfl) (by kernel_rfl) (by kernel_rfl) (fun _ _ _ h => h) (Or.inl ⟨by rfl, ?_⟩) (by assumption) ?_
  rotate_left
  · intro w hSw; (try dsimp only at hSw); go_simp; (try (with_reducible rfl))
  try simp only [List.getElem_toArray, List.getElem_cons_succ, List.getElem_cons_zero, Act.put, List.setIfInBounds_toArray, List.set_cons_zero, List.set_cons_succ]
  refine wpAnyH_ready (rs := [1]) (by kernel_rfl) (by simp) ?_
  refine (AllReadyH.cons rfl (fun K hK => ?_) AllReadyH.nil)
  go_simp
  go_at_call 21; refine (CCT.out _ (Fr15.out.below (Below.refl _ _).drew)).mono ?_; rintro e wy ⟨⟨A2, c2', rfl, hr1⟩, hb1⟩
  have hby : Below w15.heap.size w15 wy := ((Below.refl w15.heap.size w15).drew).trans (hb1.mono ((Below.refl w15.heap.size w15).drew).size)
  have HRY := Lib.hid hr1
  have HBY := Lib.hid hby
  clear hr1 hb1 hby
  go_wp2_with fail
  refine hK.out _ _ ?_ (fun hHeld => ?_)
  · clear hK K; exact HSB.out _ HBY.out
  clear hK K
  try simp only [List.getElem_toArray, List.getElem_cons_succ, List.getElem_cons_zero, Act.put, List.setIfInBounds_toArray, List.set_cons_zero, List.set_cons_succ]
  refine wpAnyH_ready (rs := [12]) (by kernel_rfl) (by simp) ?_
  refine (AllReadyH.cons rfl (fun K hK => ?_) AllReadyH.nil)
  go_simp
  go_at_call 34; refine (CTO.out _ _ _ HRY.out).mono ?_; rintro e wz ⟨⟨LX, cx, rfl, hr6⟩, hb2⟩
  have hbz : Below w15.heap.size w15 wz := HBY.out.trans (hb2.mono HBY.out.size)
  have HBZ := Lib.hid hbz
  have HLX := Lib.hid hr6
  clear hb2 hbz hr6
  go_wp2_with fail
  refine hK.out _ _ ?_ (fun hHeld => ?_)
  · clear hK K; exact HSB.out _ HBZ.out
  clear hK K
  try simp only [List.getElem_toArray, List.getElem_cons_succ, List.getElem_cons_zero, Act.put, List.setIfInBounds_toArray, List.set_cons_zero, List.set_cons_succ]
  refine wpAnyH_take (i := 13) (v := ?_) rfl (by kernel_rfl) (by kernel_rfl) (by kernel_rfl) (fun _ _ _ h => h) (Or.inl ⟨by rfl, ?_⟩) (by assumption) ?_
  rotate_left
  · intro w hSw; (try dsimp only at hSw); go_simp; (try (with_reducible rfl))
  try simp only [List.getElem_toArray, List.getElem_cons_succ, List.getElem_cons_zero, Act.put, List.setIfInBounds_toArray, List.set_cons_zero, List.set_cons_succ]
  refine wpAnyH_take (i := 14) (v := ?_) rfl (by kernel_rfl) (by kernel_rfl) (by kernel_rfl) (fun _ _ _ h => h) (Or.inl ⟨by rfl, ?_⟩) (by assumption) ?_
  rotate_left
  · intro w hSw; (try dsimp only at hSw); go_simp; (try (with_reducible rfl))
  try simp only [List.getElem_toArray, List.getElem_cons_succ, List.getElem_cons_zero, Act.put, List.setIfInBounds_toArray, List.set_cons_zero, List.set_cons_succ]
  refine wpAnyH_take (i := 15) (v := ?_) rfl (by kernel_rfl) (by kernel_rfl) (by kernel_rfl) (fun _ _ _ h => h) (Or.inl ⟨by rfl, ?_⟩) (by assumption) ?_
  rotate_left
  · intro w hSw; (try dsimp only at hSw); go_simp; (try (with_reducible rfl))
  try simp only [List.getElem_toArray, List.getElem_cons_succ, List.getElem_cons_zero, Act.put, List.setIfInBounds_toArray, List.set_cons_zero, List.set_cons_succ]
  refine wpAnyH_take (i := 16) (v := ?_) rfl (by kernel_rfl) (by kernel_rfl) (by kernel_rfl) (fun _ _ _ h => h) (Or.inl ⟨by rfl, ?_⟩) (by assumption) ?_
  rotate_left
  · intro w hSw; (try dsimp only at hSw); go_simp; (try (with_reducible rfl))
  try simp only [List.getElem_toArray, List.getElem_cons_succ, List.getElem_cons_zero, Act.put, List.setIfInBounds_toArray, List.set_cons_zero, List.set_cons_succ]
  refine wpAnyH_take (i := 17) (v := ?_) rfl (by kernel_rfl) (by kernel_rfl) (by kernel_rfl) (fun _ _ _ h => h) (Or.inl ⟨by rfl, ?_⟩) (by assumption) ?_
  rotate_left
  · intro w hSw; (try dsimp only at hSw); go_simp; (try (with_reducible rfl))
  try simp only [List.getElem_toArray, List.getElem_cons_succ, List.getElem_cons_zero, Act.put, List.setIfInBounds_toArray, List.set_cons_zero, List.set_cons_succ]
  refine wpAnyH_take (i := 18) (v := ?_) rfl (by kernel_rfl) (by kernel_rfl) (by kernel_rfl) (fun _ _ _ h => h) (Or.inl ⟨by rfl, ?_⟩) (by assumption) ?_
  rotate_left
  · intro w hSw; (try dsimp only at hSw); go_simp; (try (with_reducible rfl))
  try simp only [List.getElem_toArray, List.getElem_cons_succ, List.getElem_cons_zero, Act.put, List.setIfInBounds_toArray, List.set_cons_zero, List.set_cons_succ]
  refine wpAnyH_take (i := 19) (v := ?_) rfl (by kernel_rfl) (by kernel_rfl) (by kernel_rfl) (fun _ _ _ h => h) (Or.inl ⟨by rfl, ?_⟩) (by assumption) ?_
  rotate_left
  · intro w hSw; (try dsimp only at hSw); go_simp; (try (with_reducible rfl))
  try simp only [List.getElem_toArray, List.getElem_cons_succ, List.getElem_cons_zero, Act.put, List.setIfInBounds_toArray, List.set_cons_zero, List.set_cons_succ]
  refine wpAnyH_done (by kernel_rfl) ?_ _
  obtain ⟨w16, hw16⟩ : ∃ W, W = wz := ⟨_, rfl⟩
  subst hw16
  clear hHeld HSB HRY HBY y2 y3 y4 y5 y6 n0 n1
  have Ft16 := Lib.hid (Ft15.out.below HBZ.out)
  have Fp16 := Lib.hid (Fp15.out.below HBZ.out)
  have Fr16 := Lib.hid (Fr15.out.below HBZ.out)
  have Fk16 := Lib.hid (Fk15.out.below HBZ.out)
  have Fl16 := Lib.hid (Fl15.out.below HBZ.out)
  have low16 := Lib.hid (low15.out.trans (HBZ.out.mono low15.out.size))
  clear HBZ Ft15 Fp15 Fr15 Fk15 Fl15 Fu15 Fv15 low15
  have n0 : w16.cell? ⟨w.heap.size, 0, none⟩ = some (.slice (some ad) n c) := Ft16.out.c0
  have n1 : w16.cell? ⟨w.heap.size, 1, none⟩ = some (.int .i64 b) := Ft16.out.c1
  go_wp2_with fail
  refine (CIN.out _ _ _ _ _ HLX.out Fl16.out).mono ?_
  rintro e w17 ⟨rfl, hb17⟩
  clear n0 n1
  have Ft17 := Lib.hid (Ft16.out.below hb17)
  have Fp17 := Lib.hid (Fp16.out.below hb17)
  have Fr17 := Lib.hid (Fr16.out.below hb17)
  have Fk17 := Lib.hid (Fk16.out.below hb17)
  have Fl17 := Lib.hid (Fl16.out.below hb17)
  have Fy17 := Lib.hid (HLX.out.below hb17)
  have low17 := Lib.hid (low16.out.trans (hb17.mono low16.out.size))
  clear Ft16 Fp16 Fr16 Fk16 Fl16 HLX low16 hb17
  have n0 : w17.cell? ⟨w.heap.size, 0, none⟩ = some (.slice (some ad) n c) := Ft17.out.c0
  have n1 : w17.cell? ⟨w.heap.size, 1, none⟩ = some (.int .i64 b) := Ft17.out.c1
  go_wp2_with fail
  refine (CCT.out _ Fr17.out).mono ?_
  rintro e w18 ⟨⟨A2, c2', rfl, hr2⟩, hb18⟩
  clear n0 n1
  have Ft18 := Lib.hid (Ft17.out.below hb18)
  have Fp18 := Lib.hid (Fp17.out.below hb18)
  have Fr18 := Lib.hid (Fr17.out.below hb18)
  have Fk18 := Lib.hid (Fk17.out.below hb18)
  have low18 := Lib.hid (low17.out.trans (hb18.mono low17.out.size))
  have Fa18 := Lib.hid hr2
  clear hr2
  clear Ft17 Fp17 Fr17 Fk17 low17 hb18
  have n0 : w18.cell? ⟨w.heap.size, 0, none⟩ = some (.slice (some ad) n c) := Ft18.out.c0
  have n1 : w18.cell? ⟨w.heap.size, 1, none⟩ = some (.int .i64 b) := Ft18.out.c1
  go_wp2_with fail
  refine (CTP.out _ _ _ Fa18.out).mono ?_
  rintro e w19 ⟨⟨vv, rfl⟩, hb19⟩
  clear n0 n1
  have Ft19 := Lib.hid (Ft18.out.below hb19)
  have Fp19 := Lib.hid (Fp18.out.below hb19)
  have Fr19 := Lib.hid (Fr18.out.below hb19)
  have Fk19 := Lib.hid (Fk18.out.below hb19)
  have Fa19 := Lib.hid (Fa18.out.below hb19)
  have low19 := Lib.hid (low18.out.trans (hb19.mono low18.out.size))
  clear Ft18 Fp18 Fr18 Fk18 Fa18 low18 hb19
  have n0 : w19.cell? ⟨w.heap.size, 0, none⟩ = some (.slice (some ad) n c) := Ft19.out.c0
  have n1 : w19.cell? ⟨w.heap.size, 1, none⟩ = some (.int .i64 b) := Ft19.out.c1
  by_cases hE2z : E2 = 0
  · subst hE2z
    have hle : cc ≤ c2 := hfin.resolve_left (fun h => h rfl)
    have hdc : decide (cc ≤ c2) = true := decide_eq_true hle
    clear hfin
    go_wp2
    go_ret
    exact ⟨rfl, low19.out⟩
  · have hEb : (E2 != 0) = true := by simpa using hE2z
    clear hfin hE2z
    go_wp2
    go_ret
    exact ⟨rfl, low19.out⟩

end Go.Proofs.YtofdjapbofagiaaDoor

namespace Go.Proofs.YtofdjapbofagiaaDoor
open Go.RowKit

set_option maxRecDepth 100000 in
set_option maxHeartbeats 16000000 in
theorem proved_okb (ad : Addr) (n c : Nat) (b : Int) (rows : List (List Int)) (Q : Option Addr) (l cq : Nat) (path : List Int) (pitch : Int) (w : World) (hl : LaidSides w) (hr : RdGo w (some ad) n rows) (hQ : Q = none → l = 0 ∧ cq = 0) (hq : RdI w Q l path) (hgb : gridB 40 12 rows = true) (hk : l ≤ 40) (hn42 : n ≤ 42) (hm203 : ∀ j, j < n → (rows.getD j []).length ≤ 203) (m c' : Nat) (B : Option Addr) (hck : CellAt w ad (.slice B m c')) (h : TkOk rows b n m) (htE : taskE rows b = 0) (hcm : colsOf rows = m) (ls : List Int) (cc : Int) (hbest : bestTo (fun _ _ => true) b m rows m = (ls, cc)) (q : Nat) (hnq : n = q + 1) (lz l0 p0 : Int) (hlz : ls.getD q 0 = lz) (hl0 : ls.getD 0 0 = l0) (hp0 : lz - l0 = p0) (E2 c2 : Int) (hE2 : turnE rows b pitch = E2) (hc2 : (turnL rows b pitch).2 = c2) (hfin : E2 ≠ 0 ∨ cc ≤ c2) (hpe : pathE n m path = 0) (hv : costF rows b path n = cc) :
    Calls Tryd.prog 6 #[.agg #[.slice (some ad) n c, .int .i64 b], .slice Q l cq, .int .i64 pitch] w fun e w' => e = .returned (.bool true) ∧ Below w.heap.size w w' := by
  have hb0 : Below w.heap.size w (w.alloc (.cells #[.slice (some ad) n c, .int .i64 b] 53)) := (Below.refl _ _).alloc (Nat.le_refl _) _
  have HL := Lib.hid (hl.later hb0)
  have HT : Hid (TaskAt (w.alloc (.cells #[.slice (some ad) n c, .int .i64 b] 53)) w.heap.size (some ad) n c b) := Bk.new w 53 #[.slice (some ad) n c, .int .i64 b]
  have HRO := Lib.hid (hr.below hb0)
  have HQO := Lib.hid (hq.below hb0)
  have low0 := Lib.hid hb0
  have HRN := Lib.hid ((hr.full hm203).below hb0)
  have HCK := Lib.hid (hck.below hb0)
  have h0n : 0 < n := h.n0
  have hm12 : m ≤ 12 := h.m12
  have hm0 : 0 < m := h.m0
  obtain ⟨b1, b2, b3, b4, b5, b6⟩ := best_spec h hbest
  have hlsn : ls.length = n := (path_in b1).1
  have hbl : bestL rows b = (ls, cc) := by unfold bestL; rw [if_pos htE, hcm]; exact hbest
  have hfirst := nth_nonneg b1 0 h.n0
  have hlast := nth_nonneg b1 q (by omega)
  rw [hl0] at hfirst
  rw [hlz] at hlast
  have hturn : turnT rows b p0 = (ls, cc) := by
    unfold turnT
    rw [hcm]
    exact turn_own _ h hbest (decide_eq_true (by rw [show n - 1 = q by omega, hl0, hlz]; omega))
  have hturnE : turnE rows b p0 = 0 := by
    unfold turnE
    rw [if_pos htE, if_pos (by unfold fromB; simp; omega), hturn, if_neg (by dsimp only; omega)]
  have hturnL : turnL rows b p0 = (ls, cc) := by unfold turnL; rw [if_pos hturnE, hturn]
  have hkI : ¬ (40 : Int) < (l : Int) := by omega
  have hcE : (cc != cc) = false := by simp
  have hcq : (cc == cc) = true := by simp
  have hccl : decide (cc < cc) = false := decide_eq_false (by omega)
  have hccn : ¬ cc < cc := by omega
  have CST : Hid (∀ W, RdGo W (some ad) n rows → Calls Tryd.prog 19 #[.slice (some ad) n c] W fun e w' => e = .returned (.bool true) ∧ W = w') := fun W h => by rw [← hgb]; exact strip_any _ n c rows W h
  have CTE : Hid (∀ W, RdGN W (some ad) n rows → Calls Tryd.prog 27 #[.agg #[.slice (some ad) n c, .int .i64 b]] W fun e w' => e = .returned (.int .i64 0) ∧ Below W.heap.size W w') := fun W h => by rw [← htE]; exact refTaskErr_any _ n c rows b W h.toG (by omega)
  have CCT : Hid (∀ W, RdGN W (some ad) n rows → Calls Tryd.prog 21 #[.agg #[.slice (some ad) n c, .int .i64 b]] W fun e w' => (∃ A' c', e = .returned (.agg #[.slice A' n c', .int .i64 b]) ∧ RdGN w' A' n rows) ∧ Below W.heap.size W w') := fun W h => copyTask_any _ n c rows b W h (by omega) hm203
  have CBP : Hid (∀ W A' c', RdGN W A' n rows → Calls Tryd.prog 33 #[.agg #[.slice A' n c', .int .i64 b]] W fun e w' => (∃ la cl, e = .returned (.tuple #[.slice (some la) n cl, .int .i64 cc, .int .i64 0]) ∧ RdI w' (some la) n ls ∧ CellAt w' (la.add q) (.int .i64 lz) ∧ CellAt w' la (.int .i64 l0)) ∧ Below W.heap.size W w') := fun W A' c' h1 => by
    have h2 := BestPath_any A' n c' rows b W h1.toG (by omega)
    rw [hbl, htE] at h2
    refine h2.mono ?_
    rintro e w' ⟨⟨v, he, ho⟩, hb⟩
    dsimp only at ho
    rw [hlsn] at ho
    obtain ⟨L, cl, rfl, _, h3⟩ := rd_of_own ho
    obtain ⟨la, rfl, hlt, hcell⟩ := h3.2 h0n
    have k0 := hcell 0 h0n
    rw [addZ, hl0] at k0
    have k1 := hcell q (by omega)
    rw [hlz] at k1
    exact ⟨⟨la, cl, he, h3, ⟨by rw [addBlock]; exact hlt, k1⟩, ⟨hlt, k0⟩⟩, hb⟩
  obtain ⟨X, hX⟩ : ∃ X, prTo rows b m n = X := ⟨_, rfl⟩
  have hXok : pricesE rows b n m X = 0 := by rw [← hX]; exact prTo_ok h
  have hXbd : boundF X = cc := by rw [← hX]; exact prTo_bound h hbest
  have hXlen : X.length = n := by rw [← hX]; exact prTo_length n
  have hXrow : ∀ r ∈ X, r.length = m := fun r hr => ((prices_parts hXok).2.1 r hr).1
  have hX203 : ∀ j, j < n → (X.getD j []).length ≤ 203 := fun j hj => by rw [hXrow _ (getD_in X j [] (by omega))]; omega
  have CPR : Hid (∀ W A' c', RdGN W A' n rows → Calls Tryd.prog 37 #[.agg #[.slice A' n c', .int .i64 b]] W fun e w' => (∃ A', e = .returned (.tuple #[.slice A' n n, .int .i64 0]) ∧ RdGN w' A' n X) ∧ Below W.heap.size W w') := fun W A' c' h1 => by
    have h2 := Prices_ok A' n c' rows b m W h1.toG (by omega) htE hcm
    rw [hX] at h2
    exact h2
  have CPE : Hid (∀ W L cl, CellAt W ad (.slice B m c') → RdI W L n ls → Calls Tryd.prog 28 #[.agg #[.slice (some ad) n c, .int .i64 b], .slice L n cl] W fun e w' => e = .returned (.int .i64 0) ∧ Below W.heap.size W w') := fun W L cl h1 h2 => by
    have h3 := refPathErr_any ad n c m c' B b L n cl ls W ⟨h0n, by omega⟩ (by omega) (by omega) h1.1 h1.2 h2
    rw [b1] at h3
    exact h3
  have CCO : Hid (∀ W L cl, RdGN W (some ad) n rows → RdI W L n ls → Calls Tryd.prog 29 #[.agg #[.slice (some ad) n c, .int .i64 b], .slice L n cl] W fun e w' => e = .returned (.int .i64 cc) ∧ Below W.heap.size W w') := fun W L cl h1 h2 => by
    have h3 := refCost_any ad n c m rows b L cl ls W h1.toG ⟨h0n, by omega⟩ (by omega) h2 b1 h.row h.bb
    rw [b2] at h3
    exact h3
  have CPX : Hid (∀ W P' c2, CellAt W ad (.slice B m c') → RdGN W (some ad) n rows → RdGN W P' n X → Calls Tryd.prog 38 #[.agg #[.slice (some ad) n c, .int .i64 b], .slice P' n c2] W fun e w' => e = .returned (.int .i64 0) ∧ Below W.heap.size W w') := fun W P' c2 h1 h2 h3 => by
    have h4 := refPricesErr_any ad n c m c' B rows b P' n c2 X W h2.toG ⟨h0n, by omega⟩ ⟨hm0, by omega⟩ h1.1 h1.2 h3.toG (by omega) h.bb h.row
    rw [hXok] at h4
    exact h4
  have CBD : Hid (∀ W P' c2, RdGN W P' n X → Calls Tryd.prog 39 #[.slice P' n c2] W fun e w' => e = .returned (.int .i64 cc) ∧ W = w') := fun W P' c2 h1 => by
    have h2 := refBound_any P' n c2 m X W h1.toG (by omega) ⟨hm0, by omega⟩ hXrow
    rw [hXbd] at h2
    exact h2
  have CCL : Hid (∀ W P' c2, RdGN W P' n X → Calls Tryd.prog 25 #[.slice P' n c2] W fun e w' => (∃ A' c', e = .returned (.slice A' n c') ∧ RdGN w' A' n X) ∧ Below W.heap.size W w') := fun W P' c2 h1 => by
    refine (copyLists_any _ n c2 X W h1 (by omega) hX203).mono ?_
    rintro e w' ⟨⟨v, he, ho⟩, hb⟩
    obtain ⟨A', c', e2, h2⟩ := ho.read hXlen hX203
    exact ⟨⟨A', c', by rw [he, e2], h2⟩, hb⟩
  have CCP : Hid (∀ W A' c' P' cp', RdGN W A' n rows → RdGN W P' n X → Calls Tryd.prog 40 #[.agg #[.slice A' n c', .int .i64 b], .slice P' n cp'] W fun e w' => e = .returned (.tuple #[.int .i64 cc, .int .i64 0]) ∧ Below W.heap.size W w') := fun W A' c' P' cp' h1 h2 => by
    have h3 := CheckPrices_any A' n c' rows b P' n cp' X W h1.toG (by omega) h2.toG (by omega)
    have hc : cpE rows b n X = 0 := by unfold cpE; rw [if_pos htE, hcm]; exact hXok
    rw [hc, if_pos rfl, hXbd] at h3
    exact h3
  have HQN := Lib.hid hQ
  have CCI : Hid (∀ W, RdI W Q l path → Calls Tryd.prog 22 #[.slice Q l cq] W fun e w' => (∃ A' c', e = .returned (.slice A' l c') ∧ RdI w' A' l path) ∧ Below W.heap.size W w') := fun W h1 => by
    refine (copyInts_any Q l cq path W HQN.out h1 (by omega)).mono ?_
    rintro e w' ⟨⟨v, he, ho⟩, hb⟩
    have hpl : path.length = l := h1.1
    rw [hpl] at ho
    obtain ⟨A', c', rfl, _, h3⟩ := rd_of_own ho
    exact ⟨⟨A', c', he, h3⟩, hb⟩
  have CCS : Hid (∀ W A' c' P' cp', RdGN W A' n rows → RdI W P' l path → Calls Tryd.prog 20 #[.agg #[.slice A' n c', .int .i64 b], .slice P' l cp'] W fun e w' => e = .returned (.tuple #[.int .i64 cc, .int .i64 0]) ∧ Below W.heap.size W w') := fun W A' c' P' cp' h1 h2 => by
    have h3 := CostOf_any A' n c' rows b P' l cp' path W h1.toG (by omega) h2 (by omega)
    have hc : cstE rows b n path = pathE n m path := by unfold cstE; rw [if_pos htE, hcm]
    rw [hc, hpe, if_pos rfl, hv] at h3
    exact h3
  have CTO : Hid (∀ W A' c', RdGN W A' n rows → Calls Tryd.prog 34 #[.agg #[.slice A' n c', .int .i64 b], .int .i64 p0] W fun e w' => (∃ L cl, e = .returned (.tuple #[.slice L n cl, .int .i64 cc, .int .i64 0]) ∧ RdI w' L n ls) ∧ Below W.heap.size W w') := fun W A' c' h1 => by
    have h2 := TurnPath_any A' n c' rows b p0 W h1.toG (by omega)
    rw [hturnE, hturnL] at h2
    refine h2.mono ?_
    rintro e w' ⟨⟨v, he, ho⟩, hb⟩
    dsimp only at ho
    rw [hlsn] at ho
    obtain ⟨L, cl, rfl, _, h3⟩ := rd_of_own ho
    exact ⟨⟨L, cl, he, h3⟩, hb⟩
  have CTP : Hid (∀ W A' c', RdGN W A' n rows → Calls Tryd.prog 34 #[.agg #[.slice A' n c', .int .i64 b], .int .i64 pitch] W fun e w' => (∃ v, e = .returned (.tuple #[v, .int .i64 c2, .int .i64 E2])) ∧ Below W.heap.size W w') := fun W A' c' h1 => by
    have h2 := TurnPath_any A' n c' rows b pitch W h1.toG (by omega)
    rw [hE2, hc2] at h2
    refine h2.mono ?_
    rintro e w' ⟨⟨v, he, ho⟩, hb⟩
    exact ⟨⟨v, he⟩, hb⟩
  have CIN : Hid (∀ W L cl L' cl', RdI W L n ls → RdI W L' n ls → Calls Tryd.prog 16 #[.slice L n cl, .slice L' n cl'] W fun e w' => e = .returned (.bool true) ∧ Below W.heap.size W w') := fun W L cl L' cl' h1 h2 => by
    refine (ints_any L L' n n cl cl' ls ls W h1 h2 (by omega) (by omega)).mono ?_
    rintro e w' ⟨he, k, rfl⟩
    exact ⟨by rw [he, decide_eq_true rfl], belowDrewN (Below.refl _ _) _⟩
  have hz1 : IntKind.i64.wrap ((n : Int) - 1) = (q : Int) := by rw [show (n : Int) - 1 = (q : Int) by omega]; exact IntWalk.i64_in _ (by omega)
  have hz2 : IntKind.i64.wrap (lz - l0) = p0 := by rw [hp0]; exact IntWalk.i64_in _ (by omega)
  have hz3 : (0 : Int) ≤ (q : Int) := by omega
  have hz4 : (q : Int) < (n : Int) := by omega
  have hz5 : (0 : Int) < (n : Int) := by omega
  have hln : l = n := by rw [← hq.1]; exact (path_in hpe).1
  have CBF : Hid (∀ W L cl, RdI W Q l path → RdI W L n ls → Calls Tryd.prog 41 #[.slice Q l cq, .slice L n cl] W fun e w' => e = .returned (.bool false) ∧ Below W.heap.size W w') := fun W L cl h1 h2 => by
    subst hln
    have h3 := before_any Q L l cq cl path ls W h1 h2 (by omega)
    rw [b6 path hpe hv] at h3
    exact h3
  clear hl hr hQ hq hb0 hgb hm203 htE hck h hcm hbest hlz hl0 hp0 hE2 hc2 b1 b2 b3 b4 b5 b6 hlsn hbl hfirst hlast hturn hturnE hturnL hX hXok hXbd hXlen hXrow hX203 hnq hm12 hm0 hpe hv hln
  go_enter Tryd.func6, Tryd.ntmps6
  go_wp2_with fail
  refine (awake_any _ HL.out).mono ?_
  rintro e w1 ⟨rfl, hb1⟩
  have Ft1 := Lib.hid (HT.out.below hb1)
  have Fo1 := Lib.hid (HRO.out.below hb1)
  have Fp1 := Lib.hid (HQO.out.below hb1)
  have Fr1 := Lib.hid (HRN.out.below hb1)
  have Fk1 := Lib.hid (HCK.out.below hb1)
  have low1 := Lib.hid (low0.out.trans (hb1.mono low0.out.size))
  clear HT HRO HQO HRN HCK low0 HL hb1
  have n0 : w1.cell? ⟨w.heap.size, 0, none⟩ = some (.slice (some ad) n c) := Ft1.out.c0
  have n1 : w1.cell? ⟨w.heap.size, 1, none⟩ = some (.int .i64 b) := Ft1.out.c1
  go_wp2_with fail
  refine (CST.out _ Fo1.out).mono ?_
  rintro e w' ⟨rfl, rfl⟩
  go_wp2_with fail
  refine (CTE.out _ Fr1.out).mono ?_
  rintro e w2 ⟨rfl, hb2⟩
  clear n0 n1
  have Ft2 := Lib.hid (Ft1.out.below hb2)
  have Fp2 := Lib.hid (Fp1.out.below hb2)
  have Fr2 := Lib.hid (Fr1.out.below hb2)
  have Fk2 := Lib.hid (Fk1.out.below hb2)
  have low2 := Lib.hid (low1.out.trans (hb2.mono low1.out.size))
  clear Ft1 Fp1 Fr1 Fk1 low1 hb2
  have n0 : w2.cell? ⟨w.heap.size, 0, none⟩ = some (.slice (some ad) n c) := Ft2.out.c0
  have n1 : w2.cell? ⟨w.heap.size, 1, none⟩ = some (.int .i64 b) := Ft2.out.c1
  go_wp2_with fail
  refine (CCT.out _ Fr2.out).mono ?_
  rintro e w3 ⟨⟨A2, c2', rfl, hr2⟩, hb3⟩
  clear n0 n1
  have Ft3 := Lib.hid (Ft2.out.below hb3)
  have Fp3 := Lib.hid (Fp2.out.below hb3)
  have Fr3 := Lib.hid (Fr2.out.below hb3)
  have Fk3 := Lib.hid (Fk2.out.below hb3)
  have low3 := Lib.hid (low2.out.trans (hb3.mono low2.out.size))
  have Fa3 := Lib.hid hr2
  clear hr2
  clear Ft2 Fp2 Fr2 Fk2 low2 hb3
  have n0 : w3.cell? ⟨w.heap.size, 0, none⟩ = some (.slice (some ad) n c) := Ft3.out.c0
  have n1 : w3.cell? ⟨w.heap.size, 1, none⟩ = some (.int .i64 b) := Ft3.out.c1
  go_wp2_with fail
  refine (CBP.out _ _ _ Fa3.out).mono ?_
  rintro e w4 ⟨⟨la, cl, rfl, hr3, hr4, hr5⟩, hb4⟩
  clear n0 n1
  have Ft4 := Lib.hid (Ft3.out.below hb4)
  have Fp4 := Lib.hid (Fp3.out.below hb4)
  have Fr4 := Lib.hid (Fr3.out.below hb4)
  have Fk4 := Lib.hid (Fk3.out.below hb4)
  have Fa4 := Lib.hid (Fa3.out.below hb4)
  have low4 := Lib.hid (low3.out.trans (hb4.mono low3.out.size))
  have Fl4 := Lib.hid hr3
  have Fu4 := Lib.hid hr4
  have Fv4 := Lib.hid hr5
  clear hr3 hr4 hr5
  clear Ft3 Fp3 Fr3 Fk3 Fa3 low3 hb4
  have n0 : w4.cell? ⟨w.heap.size, 0, none⟩ = some (.slice (some ad) n c) := Ft4.out.c0
  have n1 : w4.cell? ⟨w.heap.size, 1, none⟩ = some (.int .i64 b) := Ft4.out.c1
  go_wp2_with fail
  refine (CCT.out _ Fr4.out).mono ?_
  rintro e w5 ⟨⟨A2, c2', rfl, hr2⟩, hb5⟩
  clear n0 n1
  have Ft5 := Lib.hid (Ft4.out.below hb5)
  have Fp5 := Lib.hid (Fp4.out.below hb5)
  have Fr5 := Lib.hid (Fr4.out.below hb5)
  have Fk5 := Lib.hid (Fk4.out.below hb5)
  have Fl5 := Lib.hid (Fl4.out.below hb5)
  have Fu5 := Lib.hid (Fu4.out.below hb5)
  have Fv5 := Lib.hid (Fv4.out.below hb5)
  have low5 := Lib.hid (low4.out.trans (hb5.mono low4.out.size))
  have Fa5 := Lib.hid hr2
  clear hr2
  clear Ft4 Fp4 Fr4 Fk4 Fl4 Fu4 Fv4 low4 hb5
  have n0 : w5.cell? ⟨w.heap.size, 0, none⟩ = some (.slice (some ad) n c) := Ft5.out.c0
  have n1 : w5.cell? ⟨w.heap.size, 1, none⟩ = some (.int .i64 b) := Ft5.out.c1
  go_wp2_with fail
  refine (CPR.out _ _ _ Fa5.out).mono ?_
  rintro e w6 ⟨⟨PX, rfl, hr3⟩, hb6⟩
  clear n0 n1
  have Ft6 := Lib.hid (Ft5.out.below hb6)
  have Fp6 := Lib.hid (Fp5.out.below hb6)
  have Fr6 := Lib.hid (Fr5.out.below hb6)
  have Fk6 := Lib.hid (Fk5.out.below hb6)
  have Fl6 := Lib.hid (Fl5.out.below hb6)
  have Fu6 := Lib.hid (Fu5.out.below hb6)
  have Fv6 := Lib.hid (Fv5.out.below hb6)
  have Fa6 := Lib.hid (Fa5.out.below hb6)
  have low6 := Lib.hid (low5.out.trans (hb6.mono low5.out.size))
  have Fx6 := Lib.hid hr3
  clear hr3
  clear Ft5 Fp5 Fr5 Fk5 Fl5 Fu5 Fv5 Fa5 low5 hb6
  have n0 : w6.cell? ⟨w.heap.size, 0, none⟩ = some (.slice (some ad) n c) := Ft6.out.c0
  have n1 : w6.cell? ⟨w.heap.size, 1, none⟩ = some (.int .i64 b) := Ft6.out.c1
  go_wp2_with fail
  refine (CPE.out _ _ _ Fk6.out Fl6.out).mono ?_
  rintro e w7 ⟨rfl, hb7⟩
  clear n0 n1
  have Ft7 := Lib.hid (Ft6.out.below hb7)
  have Fp7 := Lib.hid (Fp6.out.below hb7)
  have Fr7 := Lib.hid (Fr6.out.below hb7)
  have Fk7 := Lib.hid (Fk6.out.below hb7)
  have Fl7 := Lib.hid (Fl6.out.below hb7)
  have Fu7 := Lib.hid (Fu6.out.below hb7)
  have Fv7 := Lib.hid (Fv6.out.below hb7)
  have Fx7 := Lib.hid (Fx6.out.below hb7)
  have low7 := Lib.hid (low6.out.trans (hb7.mono low6.out.size))
  clear Ft6 Fp6 Fr6 Fk6 Fl6 Fu6 Fv6 Fx6 low6 hb7
  have n0 : w7.cell? ⟨w.heap.size, 0, none⟩ = some (.slice (some ad) n c) := Ft7.out.c0
  have n1 : w7.cell? ⟨w.heap.size, 1, none⟩ = some (.int .i64 b) := Ft7.out.c1
  go_wp2_with fail
  refine (CCO.out _ _ _ Fr7.out Fl7.out).mono ?_
  rintro e w8 ⟨rfl, hb8⟩
  clear n0 n1
  have Ft8 := Lib.hid (Ft7.out.below hb8)
  have Fp8 := Lib.hid (Fp7.out.below hb8)
  have Fr8 := Lib.hid (Fr7.out.below hb8)
  have Fk8 := Lib.hid (Fk7.out.below hb8)
  have Fl8 := Lib.hid (Fl7.out.below hb8)
  have Fu8 := Lib.hid (Fu7.out.below hb8)
  have Fv8 := Lib.hid (Fv7.out.below hb8)
  have Fx8 := Lib.hid (Fx7.out.below hb8)
  have low8 := Lib.hid (low7.out.trans (hb8.mono low7.out.size))
  clear Ft7 Fp7 Fr7 Fk7 Fl7 Fu7 Fv7 Fx7 low7 hb8
  have n0 : w8.cell? ⟨w.heap.size, 0, none⟩ = some (.slice (some ad) n c) := Ft8.out.c0
  have n1 : w8.cell? ⟨w.heap.size, 1, none⟩ = some (.int .i64 b) := Ft8.out.c1
  go_wp2_with fail
  refine (CPX.out _ _ _ Fk8.out Fr8.out Fx8.out).mono ?_
  rintro e w9 ⟨rfl, hb9⟩
  clear n0 n1
  have Ft9 := Lib.hid (Ft8.out.below hb9)
  have Fp9 := Lib.hid (Fp8.out.below hb9)
  have Fr9 := Lib.hid (Fr8.out.below hb9)
  have Fk9 := Lib.hid (Fk8.out.below hb9)
  have Fl9 := Lib.hid (Fl8.out.below hb9)
  have Fu9 := Lib.hid (Fu8.out.below hb9)
  have Fv9 := Lib.hid (Fv8.out.below hb9)
  have Fx9 := Lib.hid (Fx8.out.below hb9)
  have low9 := Lib.hid (low8.out.trans (hb9.mono low8.out.size))
  clear Ft8 Fp8 Fr8 Fk8 Fl8 Fu8 Fv8 Fx8 low8 hb9
  have n0 : w9.cell? ⟨w.heap.size, 0, none⟩ = some (.slice (some ad) n c) := Ft9.out.c0
  have n1 : w9.cell? ⟨w.heap.size, 1, none⟩ = some (.int .i64 b) := Ft9.out.c1
  go_wp2_with fail
  refine (CBD.out _ _ _ Fx9.out).mono ?_
  rintro e w' ⟨rfl, rfl⟩
  go_wp2_with fail
  refine (CCT.out _ Fr9.out).mono ?_
  rintro e w10 ⟨⟨A2, c2', rfl, hr2⟩, hb10⟩
  clear n0 n1
  have Ft10 := Lib.hid (Ft9.out.below hb10)
  have Fp10 := Lib.hid (Fp9.out.below hb10)
  have Fr10 := Lib.hid (Fr9.out.below hb10)
  have Fk10 := Lib.hid (Fk9.out.below hb10)
  have Fl10 := Lib.hid (Fl9.out.below hb10)
  have Fu10 := Lib.hid (Fu9.out.below hb10)
  have Fv10 := Lib.hid (Fv9.out.below hb10)
  have Fx10 := Lib.hid (Fx9.out.below hb10)
  have low10 := Lib.hid (low9.out.trans (hb10.mono low9.out.size))
  have Fa10 := Lib.hid hr2
  clear hr2
  clear Ft9 Fp9 Fr9 Fk9 Fl9 Fu9 Fv9 Fx9 low9 hb10
  have n0 : w10.cell? ⟨w.heap.size, 0, none⟩ = some (.slice (some ad) n c) := Ft10.out.c0
  have n1 : w10.cell? ⟨w.heap.size, 1, none⟩ = some (.int .i64 b) := Ft10.out.c1
  go_wp2_with fail
  refine (CCL.out _ _ _ Fx10.out).mono ?_
  rintro e w11 ⟨⟨P3, c3, rfl, hr3⟩, hb11⟩
  clear n0 n1
  have Ft11 := Lib.hid (Ft10.out.below hb11)
  have Fp11 := Lib.hid (Fp10.out.below hb11)
  have Fr11 := Lib.hid (Fr10.out.below hb11)
  have Fk11 := Lib.hid (Fk10.out.below hb11)
  have Fl11 := Lib.hid (Fl10.out.below hb11)
  have Fu11 := Lib.hid (Fu10.out.below hb11)
  have Fv11 := Lib.hid (Fv10.out.below hb11)
  have Fx11 := Lib.hid (Fx10.out.below hb11)
  have Fa11 := Lib.hid (Fa10.out.below hb11)
  have low11 := Lib.hid (low10.out.trans (hb11.mono low10.out.size))
  have Fq11 := Lib.hid hr3
  clear hr3
  clear Ft10 Fp10 Fr10 Fk10 Fl10 Fu10 Fv10 Fx10 Fa10 low10 hb11
  have n0 : w11.cell? ⟨w.heap.size, 0, none⟩ = some (.slice (some ad) n c) := Ft11.out.c0
  have n1 : w11.cell? ⟨w.heap.size, 1, none⟩ = some (.int .i64 b) := Ft11.out.c1
  go_wp2_with fail
  refine (CCP.out _ _ _ _ _ Fa11.out Fq11.out).mono ?_
  rintro e w12 ⟨rfl, hb12⟩
  clear n0 n1
  have Ft12 := Lib.hid (Ft11.out.below hb12)
  have Fp12 := Lib.hid (Fp11.out.below hb12)
  have Fr12 := Lib.hid (Fr11.out.below hb12)
  have Fk12 := Lib.hid (Fk11.out.below hb12)
  have Fl12 := Lib.hid (Fl11.out.below hb12)
  have Fu12 := Lib.hid (Fu11.out.below hb12)
  have Fv12 := Lib.hid (Fv11.out.below hb12)
  have Fx12 := Lib.hid (Fx11.out.below hb12)
  have Fa12 := Lib.hid (Fa11.out.below hb12)
  have Fq12 := Lib.hid (Fq11.out.below hb12)
  have low12 := Lib.hid (low11.out.trans (hb12.mono low11.out.size))
  clear Ft11 Fp11 Fr11 Fk11 Fl11 Fu11 Fv11 Fx11 Fa11 Fq11 low11 hb12
  have n0 : w12.cell? ⟨w.heap.size, 0, none⟩ = some (.slice (some ad) n c) := Ft12.out.c0
  have n1 : w12.cell? ⟨w.heap.size, 1, none⟩ = some (.int .i64 b) := Ft12.out.c1
  go_wp2_with fail
  refine (CCT.out _ Fr12.out).mono ?_
  rintro e w13 ⟨⟨A2, c2', rfl, hr2⟩, hb13⟩
  clear n0 n1
  have Ft13 := Lib.hid (Ft12.out.below hb13)
  have Fp13 := Lib.hid (Fp12.out.below hb13)
  have Fr13 := Lib.hid (Fr12.out.below hb13)
  have Fk13 := Lib.hid (Fk12.out.below hb13)
  have Fl13 := Lib.hid (Fl12.out.below hb13)
  have Fu13 := Lib.hid (Fu12.out.below hb13)
  have Fv13 := Lib.hid (Fv12.out.below hb13)
  have low13 := Lib.hid (low12.out.trans (hb13.mono low12.out.size))
  have Fa13 := Lib.hid hr2
  clear hr2
  clear Ft12 Fp12 Fr12 Fk12 Fl12 Fu12 Fv12 low12 hb13
  have n0 : w13.cell? ⟨w.heap.size, 0, none⟩ = some (.slice (some ad) n c) := Ft13.out.c0
  have n1 : w13.cell? ⟨w.heap.size, 1, none⟩ = some (.int .i64 b) := Ft13.out.c1
  go_wp2_with fail
  refine (CCI.out _ Fp13.out).mono ?_
  rintro e w14 ⟨⟨P4, c4, rfl, hr3⟩, hb14⟩
  clear n0 n1
  have Ft14 := Lib.hid (Ft13.out.below hb14)
  have Fp14 := Lib.hid (Fp13.out.below hb14)
  have Fr14 := Lib.hid (Fr13.out.below hb14)
  have Fk14 := Lib.hid (Fk13.out.below hb14)
  have Fl14 := Lib.hid (Fl13.out.below hb14)
  have Fu14 := Lib.hid (Fu13.out.below hb14)
  have Fv14 := Lib.hid (Fv13.out.below hb14)
  have Fa14 := Lib.hid (Fa13.out.below hb14)
  have low14 := Lib.hid (low13.out.trans (hb14.mono low13.out.size))
  have Fi14 := Lib.hid hr3
  clear hr3
  clear Ft13 Fp13 Fr13 Fk13 Fl13 Fu13 Fv13 Fa13 low13 hb14
  have n0 : w14.cell? ⟨w.heap.size, 0, none⟩ = some (.slice (some ad) n c) := Ft14.out.c0
  have n1 : w14.cell? ⟨w.heap.size, 1, none⟩ = some (.int .i64 b) := Ft14.out.c1
  go_wp2_with fail
  refine (CCS.out _ _ _ _ _ Fa14.out Fi14.out).mono ?_
  rintro e w15 ⟨rfl, hb15⟩
  clear n0 n1
  have Ft15 := Lib.hid (Ft14.out.below hb15)
  have Fp15 := Lib.hid (Fp14.out.below hb15)
  have Fr15 := Lib.hid (Fr14.out.below hb15)
  have Fk15 := Lib.hid (Fk14.out.below hb15)
  have Fl15 := Lib.hid (Fl14.out.below hb15)
  have Fu15 := Lib.hid (Fu14.out.below hb15)
  have Fv15 := Lib.hid (Fv14.out.below hb15)
  have Fa15 := Lib.hid (Fa14.out.below hb15)
  have Fi15 := Lib.hid (Fi14.out.below hb15)
  have low15 := Lib.hid (low14.out.trans (hb15.mono low14.out.size))
  clear Ft14 Fp14 Fr14 Fk14 Fl14 Fu14 Fv14 Fa14 Fi14 low14 hb15
  have n0 : w15.cell? ⟨w.heap.size, 0, none⟩ = some (.slice (some ad) n c) := Ft15.out.c0
  have n1 : w15.cell? ⟨w.heap.size, 1, none⟩ = some (.int .i64 b) := Ft15.out.c1
  go_wp2_with fail
  refine (CBF.out _ _ _ Fp15.out Fl15.out).mono ?_
  rintro e w16 ⟨rfl, hb16⟩
  clear n0 n1
  have Ft16 := Lib.hid (Ft15.out.below hb16)
  have Fp16 := Lib.hid (Fp15.out.below hb16)
  have Fr16 := Lib.hid (Fr15.out.below hb16)
  have Fk16 := Lib.hid (Fk15.out.below hb16)
  have Fl16 := Lib.hid (Fl15.out.below hb16)
  have Fu16 := Lib.hid (Fu15.out.below hb16)
  have Fv16 := Lib.hid (Fv15.out.below hb16)
  have low16 := Lib.hid (low15.out.trans (hb16.mono low15.out.size))
  clear Ft15 Fp15 Fr15 Fk15 Fl15 Fu15 Fv15 low15 hb16
  have n0 : w16.cell? ⟨w.heap.size, 0, none⟩ = some (.slice (some ad) n c) := Ft16.out.c0
  have n1 : w16.cell? ⟨w.heap.size, 1, none⟩ = some (.int .i64 b) := Ft16.out.c1
  have y2 := Fu16.out.2
  have y3 := Fv16.out.2
  have y4 : w.heap.size < w16.heap.size := Ft16.out.lt
  have y5 : (la.add q).block < w16.heap.size := Fu16.out.1
  have y6 : la.block < w16.heap.size := Fv16.out.1
  have HSB : Hid (∀ W, Below w16.heap.size w16 W → (fun w' : World => w'.cell? ⟨w.heap.size, 0, none⟩ = some (.slice (some ad) n c) ∧ w'.cell? ⟨w.heap.size, 1, none⟩ = some (.int .i64 b) ∧ w'.cell? (la.add q) = some (.int .i64 lz) ∧ w'.cell? la = some (.int .i64 l0) ∧ Below w16.heap.size w16 w') W) := fun W hb => ⟨(hb.cell (p := ⟨w.heap.size, 0, none⟩) y4).trans n0, (hb.cell (p := ⟨w.heap.size, 1, none⟩) y4).trans n1, (hb.cell y5).trans y2, (hb.cell y6).trans y3, hb⟩
  go_wp2_with fail
  refine wp_region_held_drew (S := (fun w' : World => w'.cell? ⟨w.heap.size, 0, none⟩ = some (.slice (some ad) n c) ∧ w'.cell? ⟨w.heap.size, 1, none⟩ = some (.int .i64 b) ∧ w'.cell? (la.add q) = some (.int .i64 lz) ∧ w'.cell? la = some (.int .i64 l0) ∧ Below w16.heap.size w16 w')) (by kernel_rfl) ?_ ?_
  · exact HSB.out _ (Below.refl _ _).drew
  intro hHeld
  refine wpAnyH_take (i := 0) (v := ?_) rfl (by kernel_rfl) (by kernel_rfl) (by kernel_rfl) (fun _ _ _ h => h) (Or.inl ⟨by rfl, ?_⟩) (by assumption) ?_
  rotate_left
  · intro w hSw; (try dsimp only at hSw); go_simp; (try (with_reducible rfl))
  try simp only [List.getElem_toArray, List.getElem_cons_succ, List.getElem_cons_zero, Act.put, List.setIfInBounds_toArray, List.set_cons_zero, List.set_cons_succ]
  refine wpAnyH_take (i := 2) (v := ?_) rfl (by kernel_rfl) (by kernel_rfl) (by kernel_rfl) (fun _ _ _ h => h) (Or.inl ⟨by rfl, ?_⟩) (by assumption) ?_
  rotate_left
  · intro w hSw; (try dsimp only at hSw); go_simp; (try (with_reducible rfl))
  try simp only [List.getElem_toArray, List.getElem_cons_succ, List.getElem_cons_zero, Act.put, List.setIfInBounds_toArray, List.set_cons_zero, List.set_cons_succ]
  refine wpAnyH_take (i := 3) (v := ?_) rfl (by kernel_rfl) (by kernel_rfl) (by kernel_rfl) (fun _ _ _ h => h) (Or.inl ⟨by rfl, ?_⟩) (by assumption) ?_
  rotate_left
  · intro w hSw; (try dsimp only at hSw); go_simp; (try (with_reducible rfl))
  try simp only [List.getElem_toArray, List.getElem_cons_succ, List.getElem_cons_zero, Act.put, List.setIfInBounds_toArray, List.set_cons_zero, List.set_cons_succ]
  refine wpAnyH_take (i := 4) (v := ?_) rfl (by kernel_rfl) (by kernel_rfl) (by kernel_rfl) (fun _ _ _ h => h) (Or.inl ⟨by rfl, ?_⟩) (by assumption) ?_
  rotate_left
  · intro w hSw; (try dsimp only at hSw); go_simp; (try (with_reducible rfl))
  try simp only [List.getElem_toArray, List.getElem_cons_succ, List.getElem_cons_zero, Act.put, List.setIfInBounds_toArray, List.set_cons_zero, List.set_cons_succ]
  refine wpAnyH_take (i := 5) (v := ?_) rfl (by kernel_rfl) (by kernel_rfl) (by kernel_rfl) (fun _ _ _ h => h) (Or.inl ⟨by rfl, ?_⟩) (by assumption) ?_
  rotate_left
  · intro w hSw; (try dsimp only at hSw); go_simp; (try (with_reducible rfl))
  try simp only [List.getElem_toArray, List.getElem_cons_succ, List.getElem_cons_zero, Act.put, List.setIfInBounds_toArray, List.set_cons_zero, List.set_cons_succ]
  refine wpAnyH_take (i := 6) (v := ?_) rfl (by kernel_rfl) (by kernel_rfl) (by kernel_rfl) (fun _ _ _ h => h) (Or.inl ⟨by rfl, ?_⟩) (by assumption) ?_
  rotate_left
  · intro w hSw; (try dsimp only at hSw); go_simp; (try (with_reducible rfl))
  try simp only [List.getElem_toArray, List.getElem_cons_succ, List.getElem_cons_zero, Act.put, List.setIfInBounds_toArray, List.set_cons_zero, List.set_cons_succ]
  refine wpAnyH_take (i := 7) (v := ?_) rfl (by kernel_rfl) (by kernel_rfl) (by kernel_rfl) (fun _ _ _ h => h) (Or.inl ⟨by rfl, ?_⟩) (by assumption) ?_
  rotate_left
  · intro w hSw; (try dsimp only at hSw); go_simp; (try (with_reducible rfl))
  try simp only [List.getElem_toArray, List.getElem_cons_succ, List.getElem_cons_zero, Act.put, List.setIfInBounds_toArray, List.set_cons_zero, List.set_cons_succ]
  refine wpAnyH_take (i := 8) (v := ?_) rfl (by kernel_rfl) (by kernel_rfl) (by kernel_rfl) (fun _ _ _ h => h) (Or.inl ⟨by rfl, ?_⟩) (by assumption) ?_
  rotate_left
  · intro w hSw; (try dsimp only at hSw); go_simp; (try (with_reducible rfl))
  try simp only [List.getElem_toArray, List.getElem_cons_succ, List.getElem_cons_zero, Act.put, List.setIfInBounds_toArray, List.set_cons_zero, List.set_cons_succ]
  refine wpAnyH_take (i := 9) (v := ?_) rfl (by kernel_rfl) (by kernel_rfl) (by kernel_rfl) (fun _ _ _ h => h) (Or.inl ⟨by rfl, ?_⟩) (by assumption) ?_
  rotate_left
  · intro w hSw; (try dsimp only at hSw); go_simp; (try (with_reducible rfl))
  try simp only [List.getElem_toArray, List.getElem_cons_succ, List.getElem_cons_zero, Act.put, List.setIfInBounds_toArray, List.set_cons_zero, List.set_cons_succ]
  refine wpAnyH_take (i := 10) (v := ?_) rfl (by kernel_rfl) (by kernel_rfl) (by kernel_rfl) (fun _ _ _ h => h) (Or.inl ⟨by rfl, ?_⟩) (by assumption) ?_
  rotate_left
  · intro w hSw; (try dsimp only at hSw); go_simp; (try (with_reducible rfl))
  try simp only [List.getElem_toArray, List.getElem_cons_succ, List.getElem_cons_zero, Act.put, List.setIfInBounds_toArray, List.set_cons_zero, List.set_cons_succ]
  refine wpAnyH_take (i := 11) (v := ?_) rfl (by kernel_rfl) (by kernel_rfl) (by kernel_rfl) (fun _ _ _ h => h) (Or.inl ⟨by rfl, ?_⟩) (by assumption) ?_
  rotate_left
  · intro w hSw; (try dsimp only at hSw); go_simp; (try (with_reducible rfl))
  try simp only [List.getElem_toArray, List.getElem_cons_succ, List.getElem_cons_zero, Act.put, List.setIfInBounds_toArray, List.set_cons_zero, List.set_cons_succ]
  refine wpAnyH_ready (rs := [1]) (by kernel_rfl) (by simp) ?_
  refine (AllReadyH.cons rfl (fun K hK => ?_) AllReadyH.nil)
  go_simp
  go_at_call 21; refine (CCT.out _ (Fr16.out.below (Below.refl _ _).drew)).mono ?_; rintro e wy ⟨⟨A2, c2', rfl, hr1⟩, hb1⟩
  have hby : Below w16.heap.size w16 wy := ((Below.refl w16.heap.size w16).drew).trans (hb1.mono ((Below.refl w16.heap.size w16).drew).size)
  have HRY := Lib.hid hr1
  have HBY := Lib.hid hby
  clear hr1 hb1 hby
  go_wp2_with fail
  refine hK.out _ _ ?_ (fun hHeld => ?_)
  · clear hK K; exact HSB.out _ HBY.out
  clear hK K
  try simp only [List.getElem_toArray, List.getElem_cons_succ, List.getElem_cons_zero, Act.put, List.setIfInBounds_toArray, List.set_cons_zero, List.set_cons_succ]
  refine wpAnyH_ready (rs := [12]) (by kernel_rfl) (by simp) ?_
  refine (AllReadyH.cons rfl (fun K hK => ?_) AllReadyH.nil)
  go_simp
  go_at_call 34; refine (CTO.out _ _ _ HRY.out).mono ?_; rintro e wz ⟨⟨LX, cx, rfl, hr6⟩, hb2⟩
  have hbz : Below w16.heap.size w16 wz := HBY.out.trans (hb2.mono HBY.out.size)
  have HBZ := Lib.hid hbz
  have HLX := Lib.hid hr6
  clear hb2 hbz hr6
  go_wp2_with fail
  refine hK.out _ _ ?_ (fun hHeld => ?_)
  · clear hK K; exact HSB.out _ HBZ.out
  clear hK K
  try simp only [List.getElem_toArray, List.getElem_cons_succ, List.getElem_cons_zero, Act.put, List.setIfInBounds_toArray, List.set_cons_zero, List.set_cons_succ]
  refine wpAnyH_take (i := 13) (v := ?_) rfl (by kernel_rfl) (by kernel_rfl) (by kernel_rfl) (fun _ _ _ h => h) (Or.inl ⟨by rfl, ?_⟩) (by assumption) ?_
  rotate_left
  · intro w hSw; (try dsimp only at hSw); go_simp; (try (with_reducible rfl))
  try simp only [List.getElem_toArray, List.getElem_cons_succ, List.getElem_cons_zero, Act.put, List.setIfInBounds_toArray, List.set_cons_zero, List.set_cons_succ]
  refine wpAnyH_take (i := 14) (v := ?_) rfl (by kernel_rfl) (by kernel_rfl) (by kernel_rfl) (fun _ _ _ h => h) (Or.inl ⟨by rfl, ?_⟩) (by assumption) ?_
  rotate_left
  · intro w hSw; (try dsimp only at hSw); go_simp; (try (with_reducible rfl))
  try simp only [List.getElem_toArray, List.getElem_cons_succ, List.getElem_cons_zero, Act.put, List.setIfInBounds_toArray, List.set_cons_zero, List.set_cons_succ]
  refine wpAnyH_take (i := 15) (v := ?_) rfl (by kernel_rfl) (by kernel_rfl) (by kernel_rfl) (fun _ _ _ h => h) (Or.inl ⟨by rfl, ?_⟩) (by assumption) ?_
  rotate_left
  · intro w hSw; (try dsimp only at hSw); go_simp; (try (with_reducible rfl))
  try simp only [List.getElem_toArray, List.getElem_cons_succ, List.getElem_cons_zero, Act.put, List.setIfInBounds_toArray, List.set_cons_zero, List.set_cons_succ]
  refine wpAnyH_take (i := 16) (v := ?_) rfl (by kernel_rfl) (by kernel_rfl) (by kernel_rfl) (fun _ _ _ h => h) (Or.inl ⟨by rfl, ?_⟩) (by assumption) ?_
  rotate_left
  · intro w hSw; (try dsimp only at hSw); go_simp; (try (with_reducible rfl))
  try simp only [List.getElem_toArray, List.getElem_cons_succ, List.getElem_cons_zero, Act.put, List.setIfInBounds_toArray, List.set_cons_zero, List.set_cons_succ]
  refine wpAnyH_take (i := 17) (v := ?_) rfl (by kernel_rfl) (by kernel_rfl) (by kernel_rfl) (fun _ _ _ h => h) (Or.inl ⟨by rfl, ?_⟩) (by assumption) ?_
  rotate_left
  · intro w hSw; (try dsimp only at hSw); go_simp; (try (with_reducible rfl))
  try simp only [List.getElem_toArray, List.getElem_cons_succ, List.getElem_cons_zero, Act.put, List.setIfInBounds_toArray, List.set_cons_zero, List.set_cons_succ]
  refine wpAnyH_take (i := 18) (v := ?_) rfl (by kernel_rfl) (by kernel_rfl) (by kernel_rfl) (fun _ _ _ h => h) (Or.inl ⟨by rfl, ?_⟩) (by assumption) ?_
  rotate_left
  · intro w hSw; (try dsimp only at hSw); go_simp; (try (with_reducible rfl))
  try simp only [List.getElem_toArray, List.getElem_cons_succ, List.getElem_cons_zero, Act.put, List.setIfInBounds_toArray, List.set_cons_zero, List.set_cons_succ]
  refine wpAnyH_take (i := 19) (v := ?_) rfl (by kernel_rfl) (by kernel_rfl) (by kernel_rfl) (fun _ _ _ h => h) (Or.inl ⟨by rfl, ?_⟩) (by assumption) ?_
  rotate_left
  · intro w hSw; (try dsimp only at hSw); go_simp; (try (with_reducible rfl))
  try simp only [List.getElem_toArray, List.getElem_cons_succ, List.getElem_cons_zero, Act.put, List.setIfInBounds_toArray, List.set_cons_zero, List.set_cons_succ]
  refine wpAnyH_done (by kernel_rfl) ?_ _
  obtain ⟨w17, hw17⟩ : ∃ W, W = wz := ⟨_, rfl⟩
  subst hw17
  clear hHeld HSB HRY HBY y2 y3 y4 y5 y6 n0 n1
  have Ft17 := Lib.hid (Ft16.out.below HBZ.out)
  have Fp17 := Lib.hid (Fp16.out.below HBZ.out)
  have Fr17 := Lib.hid (Fr16.out.below HBZ.out)
  have Fk17 := Lib.hid (Fk16.out.below HBZ.out)
  have Fl17 := Lib.hid (Fl16.out.below HBZ.out)
  have low17 := Lib.hid (low16.out.trans (HBZ.out.mono low16.out.size))
  clear HBZ Ft16 Fp16 Fr16 Fk16 Fl16 Fu16 Fv16 low16
  have n0 : w17.cell? ⟨w.heap.size, 0, none⟩ = some (.slice (some ad) n c) := Ft17.out.c0
  have n1 : w17.cell? ⟨w.heap.size, 1, none⟩ = some (.int .i64 b) := Ft17.out.c1
  go_wp2_with fail
  refine (CIN.out _ _ _ _ _ HLX.out Fl17.out).mono ?_
  rintro e w18 ⟨rfl, hb18⟩
  clear n0 n1
  have Ft18 := Lib.hid (Ft17.out.below hb18)
  have Fp18 := Lib.hid (Fp17.out.below hb18)
  have Fr18 := Lib.hid (Fr17.out.below hb18)
  have Fk18 := Lib.hid (Fk17.out.below hb18)
  have Fl18 := Lib.hid (Fl17.out.below hb18)
  have Fy18 := Lib.hid (HLX.out.below hb18)
  have low18 := Lib.hid (low17.out.trans (hb18.mono low17.out.size))
  clear Ft17 Fp17 Fr17 Fk17 Fl17 HLX low17 hb18
  have n0 : w18.cell? ⟨w.heap.size, 0, none⟩ = some (.slice (some ad) n c) := Ft18.out.c0
  have n1 : w18.cell? ⟨w.heap.size, 1, none⟩ = some (.int .i64 b) := Ft18.out.c1
  go_wp2_with fail
  refine (CCT.out _ Fr18.out).mono ?_
  rintro e w19 ⟨⟨A2, c2', rfl, hr2⟩, hb19⟩
  clear n0 n1
  have Ft19 := Lib.hid (Ft18.out.below hb19)
  have Fp19 := Lib.hid (Fp18.out.below hb19)
  have Fr19 := Lib.hid (Fr18.out.below hb19)
  have Fk19 := Lib.hid (Fk18.out.below hb19)
  have low19 := Lib.hid (low18.out.trans (hb19.mono low18.out.size))
  have Fa19 := Lib.hid hr2
  clear hr2
  clear Ft18 Fp18 Fr18 Fk18 low18 hb19
  have n0 : w19.cell? ⟨w.heap.size, 0, none⟩ = some (.slice (some ad) n c) := Ft19.out.c0
  have n1 : w19.cell? ⟨w.heap.size, 1, none⟩ = some (.int .i64 b) := Ft19.out.c1
  go_wp2_with fail
  refine (CTP.out _ _ _ Fa19.out).mono ?_
  rintro e w20 ⟨⟨vv, rfl⟩, hb20⟩
  clear n0 n1
  have Ft20 := Lib.hid (Ft19.out.below hb20)
  have Fp20 := Lib.hid (Fp19.out.below hb20)
  have Fr20 := Lib.hid (Fr19.out.below hb20)
  have Fk20 := Lib.hid (Fk19.out.below hb20)
  have Fa20 := Lib.hid (Fa19.out.below hb20)
  have low20 := Lib.hid (low19.out.trans (hb20.mono low19.out.size))
  clear Ft19 Fp19 Fr19 Fk19 Fa19 low19 hb20
  have n0 : w20.cell? ⟨w.heap.size, 0, none⟩ = some (.slice (some ad) n c) := Ft20.out.c0
  have n1 : w20.cell? ⟨w.heap.size, 1, none⟩ = some (.int .i64 b) := Ft20.out.c1
  by_cases hE2z : E2 = 0
  · subst hE2z
    have hle : cc ≤ c2 := hfin.resolve_left (fun h => h rfl)
    have hdc : decide (cc ≤ c2) = true := decide_eq_true hle
    clear hfin
    go_wp2
    go_ret
    exact ⟨rfl, low20.out⟩
  · have hEb : (E2 != 0) = true := by simpa using hE2z
    clear hfin hE2z
    go_wp2
    go_ret
    exact ⟨rfl, low20.out⟩

end Go.Proofs.YtofdjapbofagiaaDoor

namespace Go.Proofs.YtofdjapbofagiaaDoor
open Go.RowKit

theorem proved_walk (A : Option Addr) (n c : Nat) (b : Int) (rows : List (List Int)) (Q : Option Addr) (l cq : Nat) (path : List Int) (pitch : Int) (w : World) (hl : LaidSides w) (hr : RdGo w A n rows) (hQ : Q = none → l = 0 ∧ cq = 0) (hq : RdI w Q l path) :
    Calls Tryd.prog 6 #[.agg #[.slice A n c, .int .i64 b], .slice Q l cq, .int .i64 pitch] w fun e w' => e = .returned (.bool true) ∧ Below w.heap.size w w' := by
  cases hgb : gridB 40 12 rows with
  | false => exact proved_wide A n c b rows Q l cq path pitch w hl hr hQ hq hgb
  | true =>
    obtain ⟨h1, h2⟩ := gridB_parts hgb
    rw [hr.1] at h1 h2
    have hm203 : ∀ j, j < n → (rows.getD j []).length ≤ 203 := fun j hj => by have := h2 j hj; omega
    by_cases hk : l ≤ 40
    · by_cases hE : taskE rows b = 0
      · obtain ⟨ad, m, c', B, rfl, hcm, h0, h40, hm0, hm12, hadb, hck, hbb, hg⟩ := task_parts (hr.full hm203).toG hE
        have h : TkOk rows b n m := ⟨hr.1, h0, h40, hm0, hm12, hg, hbb⟩
        obtain ⟨⟨ls, cc⟩, hbest⟩ : ∃ s, bestTo (fun _ _ => true) b m rows m = s := ⟨_, rfl⟩
        have hfin : turnE rows b pitch ≠ 0 ∨ cc ≤ (turnL rows b pitch).2 := by
          by_cases e : turnE rows b pitch = 0
          · right
            unfold turnL
            rw [if_pos e]
            unfold turnT
            rw [hcm]
            exact turn_least _ h hbest
          · exact .inl e
        by_cases hpe : pathE n m path = 0
        · have hmin := (best_spec h hbest).2.2.2.2.1 path hpe
          by_cases hv : costF rows b path n = cc
          · exact proved_okb ad n c b rows Q l cq path pitch w hl hr hQ hq hgb hk h1 hm203 m c' B ⟨hadb, hck⟩ h hE hcm ls cc hbest (n - 1) (by omega) _ _ _ rfl rfl rfl _ _ rfl rfl hfin hpe hv
          · exact proved_oka ad n c b rows Q l cq path pitch w hl hr hQ hq hgb hk h1 hm203 m c' B ⟨hadb, hck⟩ h hE hcm ls cc hbest (n - 1) (by omega) _ _ _ rfl rfl rfl _ _ rfl rfl hfin hpe _ rfl (by omega)
        · exact proved_oks ad n c b rows Q l cq path pitch w hl hr hQ hq hgb hk h1 hm203 m c' B ⟨hadb, hck⟩ h hE hcm ls cc hbest (n - 1) (by omega) _ _ _ rfl rfl rfl _ _ rfl rfl hfin _ rfl hpe
      · exact proved_err A n c b rows Q l cq path pitch w hl hr hQ hq hgb hk h1 hm203 _ hE rfl
    · exact proved_long A n c b rows Q l cq path pitch w hl hr hQ hq hgb hk

end Go.Proofs.YtofdjapbofagiaaDoor

