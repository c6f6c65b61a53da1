import Derived.Test.YtkemoffagdilgaaGreatDoorW71
namespace Go.Proofs.YtkemoffagdilgaaGreatDoor
open Go.RowKit

theorem getD_out (l : List Int) (k : Nat) (h : l.length ≤ k) : l.getD k 0 = 0 := by
  rw [List.getD_eq_getElem?_getD, List.getElem?_eq_none h]; rfl
theorem len_consT {α : Type} (l : List α) (n : Nat) (h : l.length = n + 1) : ∃ a r, l = a :: r ∧ r.length = n := by
  cases l with
  | nil => simp at h
  | cons a r => exact ⟨a, r, rfl, by simpa using h⟩
/-- The first k samples of block i, then zeros. -/
def part8 (xs : List Int) (i k : Nat) : List Int := (List.range 8).map fun j => if j < k then xs.getD (i * 8 + j) 0 else 0
theorem part8_length (xs : List Int) (i k : Nat) : (part8 xs i k).length = 8 := by simp [part8]
theorem part8_at (xs : List Int) (i k j : Nat) (hj : j < 8) : (part8 xs i k).getD j 0 = if j < k then xs.getD (i * 8 + j) 0 else 0 := by
  simp [part8, List.getD_eq_getElem?_getD, hj]
theorem part8_step (xs : List Int) (i k : Nat) : (part8 xs i k).set k (xs.getD (i * 8 + k) 0) = part8 xs i (k + 1) := by
  apply List.ext_getElem (by simp [part8])
  intro j h1 h2
  rw [List.getElem_set]
  simp only [part8, List.getElem_map, List.getElem_range]
  by_cases e : k = j
  · subst e; simp
  · rw [if_neg e]
    by_cases h : j < k
    · rw [if_pos h, if_pos (by omega)]
    · rw [if_neg h, if_neg (by omega)]
theorem part8_end (xs : List Int) (i k : Nat) (h : xs.length ≤ i * 8 + k) : part8 xs i k = part8 xs i 8 := by
  apply List.ext_getElem (by simp [part8])
  intro j h1 h2
  simp only [part8, List.getElem_map, List.getElem_range]
  have hj : j < 8 := by simpa [part8] using h1
  by_cases e : j < k
  · rw [if_pos e, if_pos hj]
  · rw [if_neg e, if_pos hj, getD_out _ _ (by omega)]
theorem part8_zero (xs : List Int) (i : Nat) : part8 xs i 0 = [0, 0, 0, 0, 0, 0, 0, 0] := by simp [part8, List.range, List.range.loop]
theorem bl_set (c h : Int) (ys : List Int) (s v : Int) (k : Nat) (hl : ys.length = 8) (hk : k < 8) : (Bl.mk c h ys s).arr.setIfInBounds (2 + k) (.int .i64 v) = (Bl.mk c h (ys.set k v) s).arr := by
  obtain ⟨a0, t0, rfl, l0⟩ := len_consT ys 7 hl
  obtain ⟨a1, t1, rfl, l1⟩ := len_consT t0 6 l0
  obtain ⟨a2, t2, rfl, l2⟩ := len_consT t1 5 l1
  obtain ⟨a3, t3, rfl, l3⟩ := len_consT t2 4 l2
  obtain ⟨a4, t4, rfl, l4⟩ := len_consT t3 3 l3
  obtain ⟨a5, t5, rfl, l5⟩ := len_consT t4 2 l4
  obtain ⟨a6, t6, rfl, l6⟩ := len_consT t5 1 l5
  obtain ⟨a7, t7, rfl, l7⟩ := len_consT t6 0 l6
  obtain rfl := List.eq_nil_of_length_eq_zero l7
  match k, hk with
  | 0, _ => rfl
  | 1, _ => rfl
  | 2, _ => rfl
  | 3, _ => rfl
  | 4, _ => rfl
  | 5, _ => rfl
  | 6, _ => rfl
  | 7, _ => rfl
theorem bl_at (c h : Int) (ys : List Int) (s : Int) (k : Nat) (hk : k < 8) : (Bl.mk c h ys s).arr[2 + k]? = some (.int .i64 (ys.getD k 0)) := by
  match k, hk with
  | 0, _ => rfl
  | 1, _ => rfl
  | 2, _ => rfl
  | 3, _ => rfl
  | 4, _ => rfl
  | 5, _ => rfl
  | 6, _ => rfl
  | 7, _ => rfl
/-- Block i of a signal. -/
def blkX (xs : List Int) (h c : Int) (i : Nat) : Bl := ⟨c + i, h, part8 xs i 8, sumT (c + i) h (part8 xs i 8)⟩
def blksX (xs : List Int) (h c : Int) (k : Nat) : List Bl := (List.range k).map (blkX xs h c)
def blCells (bs : List Bl) : List Value := bs.flatMap fun b => b.arr.toList
theorem blksX_length (xs : List Int) (h c : Int) (k : Nat) : (blksX xs h c k).length = k := by simp [blksX]
theorem blksX_succ (xs : List Int) (h c : Int) (k : Nat) : blksX xs h c (k + 1) = blksX xs h c k ++ [blkX xs h c k] := by simp [blksX, List.range_succ]
theorem blCells_snoc (bs : List Bl) (b : Bl) : blCells (bs ++ [b]) = blCells bs ++ b.arr.toList := by simp [blCells]
theorem blCells_len (bs : List Bl) : (blCells bs).length = bs.length * 11 := by
  induction bs with
  | nil => rfl
  | cons b t ih => simp only [blCells, List.flatMap_cons, List.length_append, List.length_cons] at ih ⊢; rw [ih]; simp [Bl.arr, bkA]; omega
theorem blkInfo : (Tryz.prog.info? 24).map (fun i => (i.zero, i.size, i.bytes)) = some (some (.agg #[.int .i64 0, .int .i64 0, .int .i64 0, .int .i64 0, .int .i64 0, .int .i64 0, .int .i64 0, .int .i64 0, .int .i64 0, .int .i64 0, .int .i64 0]), 11, 88) := by kernel_rfl
theorem part8_bnd (xs : List Int) (i : Nat) (h : Bnd xs 32767) : Bnd [(part8 xs i 8).getD 0 0, (part8 xs i 8).getD 1 0, (part8 xs i 8).getD 2 0, (part8 xs i 8).getD 3 0, (part8 xs i 8).getD 4 0, (part8 xs i 8).getD 5 0, (part8 xs i 8).getD 6 0, (part8 xs i 8).getD 7 0] 32767 := by
  intro j
  have h2 : ∀ j, -32767 ≤ (part8 xs i 8).getD j 0 ∧ (part8 xs i 8).getD j 0 ≤ 32767 := fun j => by
    by_cases hj : j < 8
    · rw [part8_at xs i 8 j hj, if_pos hj]; exact h _
    · rw [getD_out _ _ (by rw [part8_length]; omega)]; decide
  match j with
  | 0 => exact h2 0
  | 1 => exact h2 1
  | 2 => exact h2 2
  | 3 => exact h2 3
  | 4 => exact h2 4
  | 5 => exact h2 5
  | 6 => exact h2 6
  | 7 => exact h2 7
  | j + 8 => simp


theorem new11 (w : World) (arr : Array Value) (t : TypeId) : ∀ j u, arr.toList[j]? = some u → (w.alloc (.cells arr t)).cell? ((⟨w.heap.size, 0, none⟩ : Addr).add j) = some u := by
  intro j u hj
  rw [Addr.add_mid, Nat.zero_add, cell_of_row _ _ _ _ _ (0, 0) (heap_alloc_new w _)]
  simpa using hj

theorem eight_eq (ys : List Int) (hl : ys.length = 8) : [ys.getD 0 0, ys.getD 1 0, ys.getD 2 0, ys.getD 3 0, ys.getD 4 0, ys.getD 5 0, ys.getD 6 0, ys.getD 7 0] = ys := by
  obtain ⟨a0, t0, rfl, l0⟩ := len_consT ys 7 hl
  obtain ⟨a1, t1, rfl, l1⟩ := len_consT t0 6 l0
  obtain ⟨a2, t2, rfl, l2⟩ := len_consT t1 5 l1
  obtain ⟨a3, t3, rfl, l3⟩ := len_consT t2 4 l2
  obtain ⟨a4, t4, rfl, l4⟩ := len_consT t3 3 l3
  obtain ⟨a5, t5, rfl, l5⟩ := len_consT t4 2 l4
  obtain ⟨a6, t6, rfl, l6⟩ := len_consT t5 1 l5
  obtain ⟨a7, t7, rfl, l7⟩ := len_consT t6 0 l6
  obtain rfl := List.eq_nil_of_length_eq_zero l7
  rfl

theorem ownBelowT {w w' : World} {base : Nat} {e : TypeId} {size : Nat} {v : Value} {n : Nat} {xs : List Value} (h : w.ownsRow base e size v n xs) (hb : Below w.heap.size w w') : w'.ownsRow base e size v n xs := by
  refine ⟨h.1, ?_⟩
  rcases h.2 with h0 | ⟨g, cap, cur, h1, h2, h3, h4⟩
  · exact .inl h0
  · exact .inr ⟨g, cap, cur, h1, h2, (hb.block g (Array.getElem?_eq_some_iff.1 h3).1).trans h3, h4⟩
theorem own_formT {w : World} {base size n : Nat} {t : TypeId} {v : Value} {xs : List Value} (h : w.ownsRow base t size v n xs) : ∃ A cap, v = .slice A n cap ∧ (0 < n → ∃ g, A = some ⟨g, 0, none⟩) := by
  rcases h.2 with ⟨rfl, rfl⟩ | ⟨g, cap, cur, rfl, _⟩
  · exact ⟨none, 0, rfl, fun h => absurd h (by omega)⟩
  · exact ⟨_, cap, rfl, fun _ => ⟨g, rfl⟩⟩
end Go.Proofs.YtkemoffagdilgaaGreatDoor
