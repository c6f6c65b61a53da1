import Derived.Test.YtpkjkegcdddimaaDoorP7
import Derived.Test.YtpkjkegcdddimaaDoorS0
import Derived.Test.YtpkjkegcdddimaaDoorH7
import Derived.Test.YtpkjkegcdddimaaDoorGV
import Derived.Test.YtpkjkegcdddimaaDoorH2
namespace Go.Proofs.YtpkjkegcdddimaaDoor

/-- The first error of k of them. -/
def firstF (f : Nat → Int) : Nat → Int
  | 0 => 0
  | k + 1 => if firstF f k = 0 then f k else firstF f k
theorem firstF_zero (f : Nat → Int) : firstF f 0 = 0 := rfl
theorem firstF_step {f : Nat → Int} {k : Nat} (h : firstF f k = 0) : firstF f (k + 1) = f k := if_pos h
theorem firstF_keep {f : Nat → Int} {k : Nat} (h : firstF f k ≠ 0) : ∀ n, k ≤ n → firstF f n = firstF f k
  | 0, hk => by obtain rfl : k = 0 := by omega
                rfl
  | n + 1, hk => by
    by_cases e : k = n + 1
    · subst e; rfl
    · have ih := firstF_keep h n (by omega)
      show (if firstF f n = 0 then f n else firstF f n) = _
      rw [if_neg (by rw [ih]; exact h), ih]
theorem firstF_stop {f : Nat → Int} {k n : Nat} {x : Int} (h : firstF f k = 0) (hx : f k = x) (h0 : x ≠ 0) (hk : k < n) : firstF f n = x := by
  have e := (firstF_step h).trans hx
  rw [firstF_keep (k := k + 1) (by rw [e]; exact h0) n hk, e]
theorem firstF_ok {f : Nat → Int} : ∀ {n : Nat}, firstF f n = 0 → ∀ j, j < n → f j = 0
  | 0, _, j, hj => absurd hj (by omega)
  | n + 1, h, j, hj => by
    by_cases h0 : firstF f n = 0
    · rw [firstF_step h0] at h
      by_cases e : j = n
      · subst e; exact h
      · exact firstF_ok h0 j (by omega)
    · have := firstF_keep h0 (n + 1) (by omega)
      rw [h] at this; exact absurd this.symm h0

/-- What is wrong with a path at an index. -/
def pAt (m : Nat) (path : List Int) (i : Nat) : Int :=
  if 0 ≤ path.getD i 0 ∧ path.getD i 0 ≤ (m : Int) - 1 then (if i = 0 ∨ (-1 ≤ path.getD i 0 - path.getD (i - 1) 0 ∧ path.getD i 0 - path.getD (i - 1) 0 ≤ 1) then 0 else 9) else 6
def pathE (n m : Nat) (path : List Int) : Int := if path.length = n then firstF (pAt m path) n else 10
theorem pAt_in {m : Nat} {path : List Int} {i : Nat} (h : pAt m path i = 0) : 0 ≤ path.getD i 0 ∧ path.getD i 0 ≤ (m : Int) - 1 := by
  unfold pAt at h
  by_cases h0 : 0 ≤ path.getD i 0 ∧ path.getD i 0 ≤ (m : Int) - 1
  · exact h0
  · rw [if_neg h0] at h; omega
theorem pAt_out {m : Nat} {path : List Int} {i : Nat} (h : ¬ (0 ≤ path.getD i 0 ∧ path.getD i 0 ≤ (m : Int) - 1)) : pAt m path i = 6 := if_neg h
theorem pAt_first {m : Nat} {path : List Int} (h : 0 ≤ path.getD 0 0 ∧ path.getD 0 0 ≤ (m : Int) - 1) : pAt m path 0 = 0 := by
  unfold pAt; rw [if_pos h, if_pos (.inl rfl)]
theorem pAt_step {m : Nat} {path : List Int} {i : Nat} (h : 0 ≤ path.getD i 0 ∧ path.getD i 0 ≤ (m : Int) - 1) (hs : -1 ≤ path.getD i 0 - path.getD (i - 1) 0 ∧ path.getD i 0 - path.getD (i - 1) 0 ≤ 1) : pAt m path i = 0 := by
  unfold pAt; rw [if_pos h, if_pos (.inr hs)]
theorem pAt_jump {m : Nat} {path : List Int} {i : Nat} (h : 0 ≤ path.getD i 0 ∧ path.getD i 0 ≤ (m : Int) - 1) (h0 : i ≠ 0) (hs : ¬ (-1 ≤ path.getD i 0 - path.getD (i - 1) 0 ∧ path.getD i 0 - path.getD (i - 1) 0 ≤ 1)) : pAt m path i = 9 := by
  unfold pAt; rw [if_pos h, if_neg (by rintro (h1 | h1); exact h0 h1; exact hs h1)]
theorem path_in {n m : Nat} {path : List Int} (h : pathE n m path = 0) : path.length = n ∧ ∀ j, j < n → 0 ≤ path.getD j 0 ∧ path.getD j 0 ≤ (m : Int) - 1 := by
  unfold pathE at h
  by_cases h0 : path.length = n
  · rw [if_pos h0] at h
    exact ⟨h0, fun j hj => pAt_in (firstF_ok h j hj)⟩
  · rw [if_neg h0] at h; omega

/-- The value of a path at an index, and the cost of its beginning. -/
def valAt (rows : List (List Int)) (path : List Int) (i : Nat) : Int := (rows.getD i []).getD (path.getD i 0).toNat 0
def bendAt (b : Int) (path : List Int) (i : Nat) : Int := if i = 0 then 0 else if path.getD (i - 1) 0 = path.getD i 0 then 0 else b
def costF (rows : List (List Int)) (b : Int) (path : List Int) : Nat → Int
  | 0 => 0
  | k + 1 => costF rows b path k + valAt rows path k + bendAt b path k
theorem costF_bd {rows : List (List Int)} {b : Int} {path : List Int} (hb : 0 ≤ b ∧ b ≤ 1000) : ∀ {k : Nat}, (∀ j, j < k → 0 ≤ valAt rows path j ∧ valAt rows path j ≤ 255) → 0 ≤ costF rows b path k ∧ costF rows b path k ≤ 1255 * (k : Int)
  | 0, _ => ⟨Int.le_refl _, by simp [costF]⟩
  | k + 1, h => by
    have ih := costF_bd hb (k := k) (fun j hj => h j (by omega))
    have h1 := h k (by omega)
    have h2 : 0 ≤ bendAt b path k ∧ bendAt b path k ≤ 1000 := by
      unfold bendAt
      by_cases e : k = 0
      · rw [if_pos e]; omega
      · rw [if_neg e]; by_cases e2 : path.getD (k - 1) 0 = path.getD k 0
        · rw [if_pos e2]; omega
        · rw [if_neg e2]; exact hb
    show 0 ≤ costF rows b path k + valAt rows path k + bendAt b path k ∧ _ ≤ _
    have e : costF rows b path (k + 1) = costF rows b path k + valAt rows path k + bendAt b path k := rfl
    rw [e]
    omega

/-- The cracks of the beginning of a path. -/
def crF (rows : List (List Int)) (path : List Int) (limit : Int) : Nat → List (Int × Int)
  | 0 => []
  | k + 1 =>
    if valAt rows path k ≤ limit then crF rows path limit k
    else if 0 < (crF rows path limit k).length ∧ ((crF rows path limit k).getD ((crF rows path limit k).length - 1) (0, 0)).2 = (k : Int) - 1 then (crF rows path limit k).set ((crF rows path limit k).length - 1) (((crF rows path limit k).getD ((crF rows path limit k).length - 1) (0, 0)).1, (k : Int))
    else crF rows path limit k ++ [((k : Int), (k : Int))]
theorem crF_length (rows : List (List Int)) (path : List Int) (limit : Int) : ∀ k, (crF rows path limit k).length ≤ k
  | 0 => Nat.le_refl _
  | k + 1 => by
    have ih := crF_length rows path limit k
    unfold crF
    split
    · omega
    · split
      · simp; omega
      · simp; omega
theorem pairCells_set2 : ∀ (ps : List (Int × Int)) (j : Nat) (x : Int), j < ps.length → (pairCells ps).set (j * 2 + 1) (.int .i64 x) = pairCells (ps.set j ((ps.getD j (0, 0)).1, x))
  | [], j, _, h => absurd h (by simp)
  | p :: ps, 0, x, _ => rfl
  | p :: ps, j + 1, x, h => by
    have ih := pairCells_set2 ps j x (by simpa using h)
    have e : pairCells (p :: ps) = .int .i64 p.1 :: .int .i64 p.2 :: pairCells ps := rfl
    have e2 : pairCells (p :: ps.set j ((ps.getD j (0, 0)).1, x)) = .int .i64 p.1 :: .int .i64 p.2 :: pairCells (ps.set j ((ps.getD j (0, 0)).1, x)) := rfl
    rw [e, show (j + 1) * 2 + 1 = j * 2 + 1 + 1 + 1 by omega, List.set_cons_succ, List.set_cons_succ, ih]
    rw [List.set_cons_succ]
    exact e2.symm

end Go.Proofs.YtpkjkegcdddimaaDoor

namespace Go.Proofs.YtpkjkegcdddimaaDoor
open Go.RowKit

end Go.Proofs.YtpkjkegcdddimaaDoor

namespace Go.Proofs.YtpkjkegcdddimaaDoor
open Go.RowKit

def cstE (rows : List (List Int)) (b : Int) (n : Nat) (path : List Int) : Int := if taskE rows b = 0 then pathE n (colsOf rows) path else taskE rows b

end Go.Proofs.YtpkjkegcdddimaaDoor

namespace Go.Proofs.YtpkjkegcdddimaaDoor
open Go.RowKit

theorem getD_in {α : Type} (l : List α) (j : Nat) (d : α) (h : j < l.length) : l.getD j d ∈ l := by
  rw [List.getD_eq_getElem?_getD, List.getElem?_eq_getElem h]; exact List.getElem_mem _
/-- A value of a grid, where it lies. -/
theorem grid_at {w : World} {ad : Addr} {n m : Nat} {rows : List (List Int)} (hr : RdG w (some ad) n rows) (hb : ∀ r ∈ rows, r.length = m ∧ ∀ x ∈ r, 0 ≤ x ∧ x ≤ 255) (j t : Nat) (hj : j < n) (ht : t < m) :
    ∃ bd c, w.cell? (ad.add j) = some (.slice (some bd) m c) ∧ w.cell? (bd.add t) = some (.int .i64 ((rows.getD j []).getD t 0)) ∧ 0 ≤ (rows.getD j []).getD t 0 ∧ (rows.getD j []).getD t 0 ≤ 255 ∧ ad.block < w.heap.size ∧ bd.block < w.heap.size := by
  obtain ⟨ad', e, hlt, hc⟩ := hr.2 (by omega)
  cases e
  obtain ⟨B, m', c, h1, h2, _⟩ := hc j hj
  have hm := hb _ (getD_in rows j [] (by rw [hr.1]; exact hj))
  obtain rfl : m' = m := by rw [← h2.1, hm.1]
  obtain ⟨bd, rfl, hbb, hcb⟩ := h2.2 (by omega)
  have hv := hm.2 _ (getD_in (rows.getD j []) t 0 (by rw [hm.1]; exact ht))
  exact ⟨bd, c, h1, hcb t ht, hv.1, hv.2, hlt, hbb⟩
theorem cost_bd {rows : List (List Int)} {b : Int} {path : List Int} {n m : Nat} (hb : 0 ≤ b ∧ b ≤ 1000) (hl : rows.length = n) (hn : n ≤ 1000000) (hg : ∀ r ∈ rows, r.length = m ∧ ∀ x ∈ r, 0 ≤ x ∧ x ≤ 255) (hp : ∀ j, j < n → 0 ≤ path.getD j 0 ∧ path.getD j 0 ≤ (m : Int) - 1) (k : Nat) (hk : k ≤ n) : 0 ≤ costF rows b path k ∧ costF rows b path k ≤ 2000000000 := by
  have h := costF_bd (rows := rows) (path := path) hb (k := k) (fun j hj => by
    have hm := hg _ (getD_in rows j [] (by omega))
    have hpj := hp j (by omega)
    exact hm.2 _ (getD_in (rows.getD j []) _ 0 (by rw [hm.1]; omega)))
  omega
theorem bendAt_zero (b : Int) (path : List Int) : bendAt b path 0 = 0 := rfl
theorem bendAt_succ (b : Int) (path : List Int) (q : Nat) : bendAt b path (q + 1) = if path.getD q 0 = path.getD (q + 1) 0 then 0 else b := rfl
theorem cst_ok {rows : List (List Int)} {b : Int} {n : Nat} {path : List Int} (h : cstE rows b n path = 0) : taskE rows b = 0 ∧ pathE n (colsOf rows) path = 0 := by
  unfold cstE at h
  by_cases h0 : taskE rows b = 0
  · rw [if_pos h0] at h; exact ⟨h0, h⟩
  · rw [if_neg h0] at h; exact absurd h h0

/-- What a task and a path need: a first row, and its length. -/
theorem task_parts {A : Option Addr} {n : Nat} {rows : List (List Int)} {b : Int} {w : World} (hr : RdG w A n rows) (hE : taskE rows b = 0) :
    ∃ ad m c' B, A = some ad ∧ colsOf rows = m ∧ 0 < n ∧ n ≤ 40 ∧ 0 < m ∧ m ≤ 12 ∧ ad.block < w.heap.size ∧ w.cell? ad = some (.slice B m c') ∧ (0 ≤ b ∧ b ≤ 1000) ∧ ∀ r ∈ rows, r.length = m ∧ ∀ x ∈ r, 0 ≤ x ∧ x ≤ 255 := by
  obtain ⟨hg, hbb⟩ := task_ok hE
  obtain ⟨m, g1, g2, g3, g4, g5, g6⟩ := grid_ok hg
  have hln := hr.1
  obtain ⟨ad, rfl, hadb, hc⟩ := hr.2 (by omega)
  obtain ⟨B, m', c', hck, hrow, _⟩ := hc 0 (by omega)
  obtain rfl : m' = m := by rw [← hrow.1, g5]
  rw [addZ] at hck
  exact ⟨ad, m', c', B, rfl, g5, by omega, by omega, g2, g4, hadb, hck, hbb, row_bounds g6⟩

end Go.Proofs.YtpkjkegcdddimaaDoor

