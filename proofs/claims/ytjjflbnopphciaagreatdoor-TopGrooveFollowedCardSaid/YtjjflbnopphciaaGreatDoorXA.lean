import Derived.Test.YtjjflbnopphciaaGreatDoorH1
import Derived.Test.YtjjflbnopphciaaGreatDoorXC
import Derived.Deep.RegionHeld3
import Derived.Laws.CopyOwn
import Derived.Deep.Cut
import Derived.Maps.AppendAt
import Derived.RangeFuncBox
namespace Go.Proofs.YtjjflbnopphciaaGreatDoor

def chSum (costs : List Int) (bend : Int) (c : Nat) (x : Int) : Int := costs.getD x.toNat 0 + (if x = c then 0 else bend)
theorem chFold (costs : List Int) (bend : Int) (c : Nat) : ∀ (l : List Int) (s : Int × Int),
    (l.foldl (chStep costs bend c) s).2 ≤ s.2 ∧ (∀ x ∈ l, (l.foldl (chStep costs bend c) s).2 ≤ chSum costs bend c x) ∧
    ((l.foldl (chStep costs bend c) s) = s ∨ ∃ x ∈ l, (l.foldl (chStep costs bend c) s) = (x, chSum costs bend c x))
  | [], s => ⟨Int.le_refl _, by simp, .inl rfl⟩
  | x :: l, s => by
    have ih := chFold costs bend c l (chStep costs bend c s x)
    have hs : (chStep costs bend c s x).2 ≤ s.2 ∧ (chStep costs bend c s x).2 ≤ chSum costs bend c x ∧ (chStep costs bend c s x = s ∨ chStep costs bend c s x = (x, chSum costs bend c x)) := by
      have e : chStep costs bend c s x = if chSum costs bend c x < s.2 then (x, chSum costs bend c x) else s := rfl
      rw [e]
      by_cases h : chSum costs bend c x < s.2
      · rw [if_pos h]; exact ⟨by dsimp only; omega, by dsimp only; omega, .inr rfl⟩
      · rw [if_neg h]; exact ⟨by omega, by omega, .inl rfl⟩
    rw [List.foldl_cons]
    refine ⟨by omega, ?_, ?_⟩
    · intro y hy
      rcases List.mem_cons.1 hy with rfl | hy
      · omega
      · exact ih.2.1 y hy
    · rcases ih.2.2 with e | ⟨y, hy, e⟩
      · rw [e]
        rcases hs.2.2 with e' | e'
        · exact .inl e'
        · exact .inr ⟨x, by simp, e'⟩
      · exact .inr ⟨y, by simp [hy], e⟩

theorem nbrs_ne (c cols : Nat) (h : c < cols) : (c : Int) ∈ nbrs c cols := by
  simp only [nbrs, List.mem_map, List.mem_range, nbrCount]
  refine ⟨if c = 0 then 0 else 1, ?_, ?_⟩
  · split <;> omega
  · split <;> omega
theorem nbrs_near {c cols : Nat} (h : c < cols) {x : Int} (hx : x ∈ nbrs c cols) : 0 ≤ x ∧ x < cols ∧ (c : Int) - 1 ≤ x ∧ x ≤ c + 1 := by
  simp only [nbrs, List.mem_map, List.mem_range, nbrCount] at hx
  obtain ⟨k, hk, rfl⟩ := hx
  omega

/-- The cheapest neighbour: one of them, at its sum, which is the least. -/
theorem chp_spec (costs : List Int) (b M : Int) (c cols : Nat) (hc : c < cols) (hl : costs.length = cols) (hb : 0 ≤ b) (hM : M + b < 9223372036854775807) (hcs : ∀ x ∈ costs, 0 ≤ x ∧ x ≤ M) :
    (chp costs b c cols).1 ∈ nbrs c cols ∧ (chp costs b c cols).2 = chSum costs b c (chp costs b c cols).1 ∧ 0 ≤ (chp costs b c cols).2 ∧ (chp costs b c cols).2 ≤ M + b ∧ ∀ x ∈ nbrs c cols, (chp costs b c cols).2 ≤ chSum costs b c x := by
  have hsum : ∀ x ∈ nbrs c cols, 0 ≤ chSum costs b c x ∧ chSum costs b c x ≤ M + b := by
    intro x hx
    have h1 := nbrs_near hc hx
    have h2 : 0 ≤ costs.getD x.toNat 0 ∧ costs.getD x.toNat 0 ≤ M := by
      have : x.toNat < costs.length := by omega
      rw [List.getD_eq_getElem?_getD, List.getElem?_eq_getElem this]
      exact hcs _ (List.getElem_mem _)
    unfold chSum
    split <;> omega
  obtain ⟨h1, h2, h3⟩ := chFold costs b c (nbrs c cols) (0, 9223372036854775807)
  change (chp costs b c cols).2 ≤ _ at h1
  have h4 := hsum _ (nbrs_ne c cols hc)
  have h5 := h2 _ (nbrs_ne c cols hc)
  change (chp costs b c cols).2 ≤ _ at h5
  rcases h3 with e | ⟨x, hx, e⟩
  · change chp costs b c cols = _ at e
    rw [e] at h5
    dsimp only at h5
    omega
  · change chp costs b c cols = _ at e
    have h6 := hsum x hx
    have h7 : (chp costs b c cols).2 = chSum costs b c x := by rw [e]
    refine ⟨by rw [e]; exact hx, by rw [e], by omega, by omega, h2⟩

def lastRow (may : Nat → Bool) (vals : List Int) : List Int := (List.range vals.length).map fun c => vals.getD c 0 + if may c = true then 0 else 50200
def stepRow (b : Int) (cols : Nat) (next vals : List Int) : List Int := (List.range vals.length).map fun c => vals.getD c 0 + (chp next b c cols).2
def restRow (may : Nat → Bool) (b : Int) (cols : Nat) (r : List Int) (t : List (List Int)) : List Int := if t = [] then lastRow may r else stepRow b cols (t.getD 0 []) r
/-- The minimum costs of the rests. -/
def restsL (may : Nat → Bool) (b : Int) (cols : Nat) : List (List Int) → List (List Int)
  | [] => []
  | r :: rs => restRow may b cols r (restsL may b cols rs) :: restsL may b cols rs
theorem restsL_length (may : Nat → Bool) (b : Int) (cols : Nat) : ∀ rows, (restsL may b cols rows).length = rows.length
  | [] => rfl
  | _ :: rs => by simp [restsL, restsL_length may b cols rs]
theorem restsL_drop (may : Nat → Bool) (b : Int) (cols : Nat) : ∀ (j : Nat) (rows : List (List Int)), (restsL may b cols rows).drop j = restsL may b cols (rows.drop j)
  | 0, _ => by simp
  | j + 1, [] => by simp [restsL]
  | j + 1, r :: rs => by simp [restsL, restsL_drop may b cols j rs]
theorem getD_drop {α : Type} (l : List α) (j : Nat) (d : α) : (l.drop j).getD 0 d = l.getD j d := by simp [List.getD_eq_getElem?_getD]
theorem restRow_length (may : Nat → Bool) (b : Int) (cols : Nat) (r : List Int) (t : List (List Int)) : (restRow may b cols r t).length = r.length := by
  unfold restRow; split <;> simp [lastRow, stepRow]
/-- The row of the rests at one place. -/
theorem restsL_row (may : Nat → Bool) (b : Int) (cols : Nat) (rows : List (List Int)) (j : Nat) (h : j < rows.length) :
    (restsL may b cols rows).getD j [] = if j + 1 = rows.length then lastRow may (rows.getD j []) else stepRow b cols ((restsL may b cols rows).getD (j + 1) []) (rows.getD j []) := by
  rw [← getD_drop, restsL_drop, List.drop_eq_getElem_cons h]
  show restRow _ _ _ _ _ = _
  have hr : rows.getD j [] = rows[j] := by simp [List.getD_eq_getElem?_getD, List.getElem?_eq_getElem h]
  unfold restRow
  by_cases e : j + 1 = rows.length
  · rw [if_pos (by rw [List.drop_eq_nil_of_le (by omega)]; rfl), if_pos e, hr]
  · have hne : restsL may b cols (rows.drop (j + 1)) ≠ [] := by
      intro e'
      have := congrArg List.length e'
      rw [restsL_length] at this
      simp at this; omega
    rw [if_neg hne, if_neg e, hr, ← restsL_drop, getD_drop]
theorem restsL_rowlen (may : Nat → Bool) (b : Int) (cols : Nat) (rows : List (List Int)) (hr : ∀ r ∈ rows, r.length = cols) (j : Nat) (h : j < rows.length) : ((restsL may b cols rows).getD j []).length = cols := by
  rw [← getD_drop, restsL_drop, List.drop_eq_getElem_cons h]
  show (restRow _ _ _ _ _).length = _
  rw [restRow_length]
  exact hr _ (List.getElem_mem _)
/-- The bound of the rests' costs. -/
theorem restsL_bd (may : Nat → Bool) (b : Int) (cols : Nat) (hb : 0 ≤ b ∧ b ≤ 1000) : ∀ (rows : List (List Int)), (∀ r ∈ rows, r.length = cols ∧ ∀ x ∈ r, 0 ≤ x ∧ x ≤ 255) → rows.length ≤ 1000000 →
    ∀ r ∈ restsL may b cols rows, ∀ x ∈ r, 0 ≤ x ∧ x ≤ 50200 + 1255 * (rows.length : Int)
  | [], _, _, r, h => by simp [restsL] at h
  | a :: l, hr, hlen, r, h => by
    have ih := restsL_bd may b cols hb l (fun r h => hr r (by simp [h])) (by simp at hlen; omega)
    have ha := hr a (by simp)
    rcases List.mem_cons.1 h with rfl | h
    · intro x hx
      unfold restRow at hx
      by_cases e : restsL may b cols l = []
      · rw [if_pos e] at hx
        simp only [lastRow, List.mem_map, List.mem_range] at hx
        obtain ⟨c, hc, rfl⟩ := hx
        have h1 := ha.2 (a.getD c 0) (by rw [List.getD_eq_getElem?_getD, List.getElem?_eq_getElem hc]; exact List.getElem_mem _)
        rw [List.length_cons]
        split <;> omega
      · rw [if_neg e] at hx
        simp only [stepRow, List.mem_map, List.mem_range] at hx
        obtain ⟨c, hc, rfl⟩ := hx
        have h1 := ha.2 (a.getD c 0) (by rw [List.getD_eq_getElem?_getD, List.getElem?_eq_getElem hc]; exact List.getElem_mem _)
        have hl0 : 0 < l.length := by
          rcases l with _ | ⟨_, _⟩
          · exact absurd rfl e
          · simp
        have hmem : (restsL may b cols l).getD 0 [] ∈ restsL may b cols l := by
          rw [List.getD_eq_getElem?_getD, List.getElem?_eq_getElem (by rw [restsL_length]; exact hl0)]
          exact List.getElem_mem _
        have h2 := chp_spec ((restsL may b cols l).getD 0 []) b (50200 + 1255 * (l.length : Int)) c cols (by omega) (restsL_rowlen may b cols l (fun r h => (hr r (by simp [h])).1) 0 hl0) hb.1 (by rw [List.length_cons] at hlen; omega) (ih _ hmem)
        rw [List.length_cons]
        omega
    · intro x hx
      have := ih r h x hx
      rw [List.length_cons]
      omega

end Go.Proofs.YtjjflbnopphciaaGreatDoor

namespace Go.Proofs.YtjjflbnopphciaaGreatDoor
open Go.RowKit

/-- Block g is just the cells cs of type t. -/
def Bk (w : World) (g : Nat) (t : TypeId) (cs : Array Value) : Prop := w.heap[g]? = some (.cells cs t (0, 0))
theorem Bk.heap {w : World} {g : Nat} {t : TypeId} {cs : Array Value} (h : Bk w g t cs) : w.heap[g]? = some (.cells cs t (0, 0)) := h
theorem Bk.lt {w : World} {g : Nat} {t : TypeId} {cs : Array Value} (h : Bk w g t cs) : g < w.heap.size := by
  rcases Nat.lt_or_ge g w.heap.size with h1 | h1
  · exact h1
  · unfold Bk at h; rw [Array.getElem?_eq_none h1] at h; cases h
theorem Bk.cell {w : World} {g : Nat} {t : TypeId} {cs : Array Value} (h : Bk w g t cs) (i : Nat) : w.cell? ⟨g, i, none⟩ = cs[i]? := cell_of_row w g i cs t (0, 0) h
theorem Bk.frozen {w : World} {g : Nat} {t : TypeId} {cs : Array Value} (h : Bk w g t cs) (i : Nat) : w.frozen? ⟨g, i, none⟩ = false := frozen_of_row w g i cs t h
theorem Bk.below {w w' : World} {g B : Nat} {t : TypeId} {cs : Array Value} (h : Bk w g t cs) (hb : Below B w w') (hg : g < B) : Bk w' g t cs := (hb.block g hg).trans h
theorem Bk.later {w w' : World} {g : Nat} {t : TypeId} {cs : Array Value} (h : Bk w g t cs) (hb : Below w.heap.size w w') : Bk w' g t cs := h.below hb h.lt
theorem Bk.new (w : World) (t : TypeId) (cs : Array Value) : Bk (w.alloc (.cells cs t)) w.heap.size t cs := heap_alloc_new w _
theorem Bk.alloc {w : World} {g : Nat} {t : TypeId} {cs : Array Value} (h : Bk w g t cs) (o : Obj) : Bk (w.alloc o) g t cs := (Below.heap_alloc w o g h.lt).trans h
theorem Bk.set_ {w : World} {g : Nat} {t : TypeId} {cs : Array Value} (h : Bk w g t cs) (i : Nat) (v : Value) : Bk (w.setCell ⟨g, i, none⟩ v) g t (cs.setIfInBounds i v) := heap_setCell_same w g i cs t v h
theorem Bk.far {w : World} {g : Nat} {t : TypeId} {cs : Array Value} (h : Bk w g t cs) (p : Addr) (hp : g ≠ p.block) (v : Value) : Bk (w.setCell p v) g t cs := (heap_setCell_other w p g v hp).trans h
theorem Bk.drewN {w : World} {g : Nat} {t : TypeId} {cs : Array Value} (h : Bk w g t cs) (n : Nat) : Bk (w.drewN n) g t cs := h
theorem Bk.drew {w : World} {g : Nat} {t : TypeId} {cs : Array Value} (h : Bk w g t cs) : Bk w.drew g t cs := h
theorem Bk.grown {w w' : World} {g : Nat} {t : TypeId} {cs : Array Value} {row : Option Nat} (h : Bk w g t cs) (hg : w.grownBy w' row) (hne : some g ≠ row) : Bk w' g t cs := (hg.block g h.lt hne).trans h

/-- Integers as cells. -/
def iArr (xs : List Int) : Array Value := (xs.map (Value.int .i64)).toArray
theorem iArr_size (xs : List Int) : (iArr xs).size = xs.length := by simp [iArr]
theorem iArr_at (xs : List Int) (i : Nat) (h : i < xs.length) : (iArr xs)[i]? = some (.int .i64 (xs.getD i 0)) := by
  simp [iArr, List.getElem?_toArray, List.getD_eq_getElem?_getD, List.getElem?_eq_getElem h]
theorem iArr_set (xs : List Int) (i : Nat) (v : Int) : (iArr xs).setIfInBounds i (.int .i64 v) = iArr (xs.set i v) := by
  simp [iArr, List.map_set]
theorem addOff (g j : Nat) : (⟨g, 0, none⟩ : Addr).add j = ⟨g, j, none⟩ := by unfold Addr.add; split <;> simp_all
theorem rd_of_bk {w : World} {g n : Nat} {xs : List Int} (h : Bk w g 3 (iArr xs)) (hn : xs.length = n) : RdI w (some ⟨g, 0, none⟩) n xs :=
  ⟨hn, fun _ => ⟨_, rfl, h.lt, fun j hj => by rw [addOff, h.cell]; exact iArr_at _ _ (by omega)⟩⟩
theorem own_of_bk {w : World} {base g : Nat} {xs : List Int} (n : Nat) (h : Bk w g 3 (iArr xs)) (hn : xs.length = n) (hb : base ≤ g) (hm : n ≤ 10000000) : w.ownsRow base 3 1 (.slice (some ⟨g, 0, none⟩) n n) n (xs.map (Value.int .i64)) := by
  refine ⟨by simp [hn], .inr ⟨g, n, iArr xs, rfl, hb, h, Nat.le_refl _, by simp only [maxLen]; omega, by rw [iArr_size]; omega, ?_⟩⟩
  rw [List.take_of_length_le (by simp [iArr]; omega)]
  simp [iArr]
theorem rd_of_own {w : World} {base : Nat} {v : Value} {n : Nat} {xs : List Int} (h : w.ownsRow base 3 1 v n (xs.map (Value.int .i64))) :
    ∃ A c, v = .slice A n c ∧ n ≤ c ∧ RdI w A n xs := by
  have hl : xs.length = n := by have := h.1; simpa using this
  rcases h.2 with ⟨rfl, rfl⟩ | ⟨g, cap, cur, rfl, _, hh, hnc, _, _, htk⟩
  · exact ⟨none, 0, rfl, Nat.le_refl _, hl, fun h0 => absurd h0 (by omega)⟩
  · refine ⟨_, cap, rfl, hnc, hl, fun _ => ⟨_, rfl, ?_, fun j hj => ?_⟩⟩
    · have : Bk w g 3 cur := hh
      exact this.lt
    · rw [addOff, cell_of_row w g j cur 3 (0, 0) hh, ← Array.getElem?_toList]
      have e1 : (cur.toList.take (n * 1))[j]? = (xs.map (Value.int .i64))[j]? := by rw [htk]
      rw [List.getElem?_take, if_pos (by omega)] at e1
      rw [e1]
      simp [List.getElem?_eq_getElem (show j < xs.length by omega)]

theorem sliceInfo : (Tryz.prog.info? 22).map (fun i => (i.zero, i.size, i.bytes)) = some (some (.slice none 0 0), 1, 24) := by kernel_rfl
theorem intInfo' : (Tryz.prog.info? 3).map (fun i => (i.zero, i.size, i.bytes)) = some (some (.int .i64 0), 1, 8) := by kernel_rfl

theorem make_ints (c : Nat) (hc : c ≤ 1000000) (W : World) :
    (Instr.makeSlice 22 (.int .i64 (c : Int)) (.int .i64 (c : Int))).run Tryz.prog W = .ok (.slice (some ⟨W.heap.size, 0, none⟩) c c) (W.alloc (.cells (iArr (List.replicate c 0)) 3)) := by
  obtain ⟨i0, hi, hz0, hz1, hz2⟩ := info_parts intInfo'
  have hr := run_make (P := Tryz.prog) W 22 3 i0 _ Tryz.underlying22 hi hz0 .i64 .i64 c c (by omega) (by omega) (by rw [hz2]; omega) (by omega)
  rw [hr]
  have e : madeCells (Value.cells (.int .i64 0)) ((c : Int).toNat * i0.size) = iArr (List.replicate c 0) := by
    rw [hz1]
    apply Array.ext'
    have := toList_madeCells_one (Value.int .i64 0) c
    simp only [Int.toNat_natCast, Nat.mul_one]
    show (madeCells #[Value.int .i64 0] c).toList = _
    rw [this]
    simp [iArr]
  rw [e]
  simp
theorem make_rows (c : Nat) (hc : c ≤ 1000000) (W : World) :
    (Instr.makeSlice 39 (.int .i64 (c : Int)) (.int .i64 (c : Int))).run Tryz.prog W = .ok (.slice (some ⟨W.heap.size, 0, none⟩) c c) (W.alloc (.cells (List.replicate c (Value.slice none 0 0)).toArray 22)) := by
  obtain ⟨i0, hi, hz0, hz1, hz2⟩ := info_parts sliceInfo
  have hr := run_make (P := Tryz.prog) W 39 22 i0 _ Tryz.underlying39 hi hz0 .i64 .i64 c c (by omega) (by omega) (by rw [hz2]; omega) (by omega)
  rw [hr]
  have e : madeCells (Value.cells (.slice none 0 0)) ((c : Int).toNat * i0.size) = (List.replicate c (Value.slice none 0 0)).toArray := by
    rw [hz1]
    apply Array.ext'
    have := toList_madeCells_one (Value.slice none 0 0) c
    simp only [Int.toNat_natCast, Nat.mul_one]
    show (madeCells #[Value.slice none 0 0] c).toList = _
    rw [this]
  rw [e]
  simp

theorem ownMono {w : World} {base base' : Nat} {e : TypeId} {size : Nat} {v : Value} {n : Nat} {xs : List Value} (h : w.ownsRow base e size v n xs) (hb : base' ≤ base) : w.ownsRow base' e size v n xs := by
  refine ⟨h.1, ?_⟩
  rcases h.2 with h0 | ⟨g, cap, cur, h1, h2, h3⟩
  · exact .inl h0
  · exact .inr ⟨g, cap, cur, h1, Nat.le_trans hb h2, h3⟩

/-- A slice of integers of the call's own, and an error. -/
def OwnRes (w : World) (E : Int) (xs : List Int) (e : Ending) (w' : World) : Prop :=
  (∃ v, e = .returned (.tuple #[v, .int .i64 E]) ∧ w'.ownsRow w.heap.size 3 1 v xs.length (xs.map (Value.int .i64))) ∧ Below w.heap.size w w'
theorem OwnRes.none_ {w w' : World} {E : Int} (h : Below w.heap.size w w') : OwnRes w E [] (.returned (.tuple #[.slice none 0 0, .int .i64 E])) w' := ⟨⟨_, rfl, World.ownsRow_nil _ _ _ _⟩, h⟩
/-- A slice of integers of the call's own. -/
def OwnS (w : World) (xs : List Int) (e : Ending) (w' : World) : Prop :=
  (∃ v, e = .returned v ∧ w'.ownsRow w.heap.size 3 1 v xs.length (xs.map (Value.int .i64))) ∧ Below w.heap.size w w'

end Go.Proofs.YtjjflbnopphciaaGreatDoor

namespace Go.Proofs.YtjjflbnopphciaaGreatDoor
open Go.RowKit

/-- From row k on, the cells of block B hold slices of whole blocks that lie between B and N and hold the rows of X. -/
def RowsOk (B n cols : Nat) (X : List (List Int)) (k N : Nat) (W : World) : Prop :=
  ∀ j, k ≤ j → j < n → ∃ g, W.cell? ⟨B, j, none⟩ = some (.slice (some ⟨g, 0, none⟩) cols cols) ∧ B < g ∧ g < N ∧ Bk W g 3 (iArr (X.getD j []))
def RestI (w : World) (A : Option Addr) (n c cols : Nat) (b : Int) (X : List (List Int)) (k : Nat) (wr : World) : Prop :=
  (∃ cur, Bk wr (w.heap.size + 1) 22 cur ∧ cur.size = n) ∧ RowsOk (w.heap.size + 1) n cols X k wr.heap.size wr ∧ Bk wr w.heap.size 104 #[.slice A n c, .int .i64 b, .int .i64 cols] ∧ Below w.heap.size w wr
def RestRes (w : World) (n : Nat) (X : List (List Int)) (e : Ending) (w' : World) : Prop :=
  (∃ A', e = .returned (.slice A' n n) ∧ RdG w' A' n X) ∧ Below w.heap.size w w'

theorem lastRow_at (may : Nat → Bool) (l : List Int) (q : Nat) (h : q < l.length) : (lastRow may l).getD q 0 = l.getD q 0 + if may q = true then 0 else 50200 := by
  rw [List.getD_eq_getElem?_getD, List.getElem?_eq_getElem (by simp [lastRow, h])]
  simp [lastRow]
theorem stepRow_at (b : Int) (cols : Nat) (next l : List Int) (q : Nat) (h : q < l.length) : (stepRow b cols next l).getD q 0 = l.getD q 0 + (chp next b q cols).2 := by
  rw [List.getD_eq_getElem?_getD, List.getElem?_eq_getElem (by simp [stepRow, h])]
  simp [stepRow]
/-- The first q numbers of a row, then zeros. -/
def padR (l : List Int) (q cols : Nat) : List Int := (List.range cols).map fun i => if i < q then l.getD i 0 else 0
theorem padR_length (l : List Int) (q cols : Nat) : (padR l q cols).length = cols := by simp [padR]
theorem padR_zero (l : List Int) (cols : Nat) : padR l 0 cols = List.replicate cols 0 := by
  apply List.ext_getElem <;> simp [padR]
theorem padR_all (l : List Int) (cols : Nat) (h : l.length = cols) : padR l cols cols = l := by
  apply List.ext_getElem
  · simp [padR, h]
  · intro i h1 h2
    simp [padR] at h1 ⊢
    rw [if_pos h1, List.getElem?_eq_getElem h2]; rfl
theorem padR_set (l : List Int) (q cols : Nat) : (padR l q cols).set q (l.getD q 0) = padR l (q + 1) cols := by
  apply List.ext_getElem
  · simp [padR]
  · intro i h1 h2
    simp [padR] at h1
    rw [List.getElem_set]
    by_cases e : q = i
    · subst e; simp [padR]
    · rw [if_neg e]
      simp only [padR, List.getElem_map, List.getElem_range]
      by_cases hi : i < q
      · rw [if_pos hi, if_pos (by omega)]
      · rw [if_neg hi, if_neg (by omega)]

def InnerI (w : World) (A : Option Addr) (n c cols : Nat) (b : Int) (X : List (List Int)) (j C q : Nat) (wr : World) : Prop :=
  Bk wr C 3 (iArr (padR (X.getD j []) q cols)) ∧ (∃ cur, Bk wr (w.heap.size + 1) 22 cur ∧ cur.size = n ∧ cur[j]? = some (.slice (some ⟨C, 0, none⟩) cols cols)) ∧ RowsOk (w.heap.size + 1) n cols X (j + 1) C wr ∧ Bk wr w.heap.size 104 #[.slice A n c, .int .i64 b, .int .i64 cols] ∧ Below w.heap.size w wr ∧ w.heap.size + 1 < C
theorem RowsOk.keep {B n cols : Nat} {X : List (List Int)} {k N N' : Nat} {W W' : World} (h : RowsOk B n cols X k N W) (hN : N ≤ N') (hc : ∀ j, k ≤ j → j < n → W'.cell? ⟨B, j, none⟩ = W.cell? ⟨B, j, none⟩) (hg : ∀ g, B < g → g < N → W'.heap[g]? = W.heap[g]?) : RowsOk B n cols X k N' W' := by
  intro j hj hjn
  obtain ⟨g, h1, h2, h3, h4⟩ := h j hj hjn
  exact ⟨g, (hc j hj hjn).trans h1, h2, by omega, (hg g h2 h3).trans h4⟩
theorem InnerI.lt {w : World} {A : Option Addr} {n c cols : Nat} {b : Int} {X : List (List Int)} {j C q : Nat} {wr : World} (h : InnerI w A n c cols b X j C q wr) : C < wr.heap.size := h.1.lt
theorem InnerI.step {w : World} {A : Option Addr} {n c cols : Nat} {b : Int} {X : List (List Int)} {j C q : Nat} {wr w' : World} {x : Int} (h : InnerI w A n c cols b X j C q wr) (hb : Below wr.heap.size wr w') (hx : (X.getD j []).getD q 0 = x) :
    InnerI w A n c cols b X j C (q + 1) (w'.setCell ⟨C, q, none⟩ (.int .i64 x)) := by
  have hC := h.lt
  obtain ⟨h1, ⟨cur, h2, h3, h4⟩, h5, h6, h7, h8⟩ := h
  have hfar : ∀ g, g ≠ C → g < wr.heap.size → (w'.setCell ⟨C, q, none⟩ (.int .i64 x)).heap[g]? = wr.heap[g]? := fun g hg hlt => (Below.heap_setCell _ _ _ _ hg).trans (hb.block g hlt)
  refine ⟨?_, ⟨cur, (hfar _ (by omega) h2.lt).trans h2, h3, h4⟩, h5.keep (Nat.le_refl _) (fun i _ _ => ?_) (fun g _ hg => hfar g (by omega) (by omega)), (hfar _ (by omega) h6.lt).trans h6, (h7.trans (hb.mono h7.size)).setCell (p := ⟨C, q, none⟩) (by dsimp only; omega) _, h8⟩
  · have := (h1.later hb).set_ q (.int .i64 x)
    rw [iArr_set, ← hx, padR_set, hx] at this
    exact this
  · have e := hfar (w.heap.size + 1) (by omega) h2.lt
    simp only [World.cell?, e]

theorem InnerI.done_ {w : World} {A : Option Addr} {n c cols : Nat} {b : Int} {X : List (List Int)} {j C : Nat} {wr : World} (h : InnerI w A n c cols b X j C cols wr) (hl : (X.getD j []).length = cols) : RestI w A n c cols b X j wr := by
  have hC := h.lt
  obtain ⟨h1, ⟨cur, h2, h3, h4⟩, h5, h6, h7, h8⟩ := h
  refine ⟨⟨cur, h2, h3⟩, fun i hi hin => ?_, h6, h7⟩
  by_cases e : i = j
  · subst e
    rw [padR_all _ _ hl] at h1
    exact ⟨C, by rw [h2.cell]; exact h4, h8, hC, h1⟩
  · obtain ⟨g, k1, k2, k3, k4⟩ := h5 i (by omega) hin
    exact ⟨g, k1, k2, by omega, k4⟩

theorem RowsOk.rdG {B n cols : Nat} {X : List (List Int)} {N : Nat} {W : World} (h : RowsOk B n cols X 0 N W) (hB : B < W.heap.size) (hX : X.length = n) (hl : ∀ j, j < n → (X.getD j []).length = cols) (hcols : cols ≤ 1000) : RdG W (some ⟨B, 0, none⟩) n X := by
  refine ⟨hX, fun _ => ⟨_, rfl, hB, fun j hj => ?_⟩⟩
  obtain ⟨g, h1, h2, h3, h4⟩ := h j (Nat.zero_le _) hj
  exact ⟨_, _, _, by rw [addOff]; exact h1, rd_of_bk h4 (hl j hj), by omega⟩

set_option maxRecDepth 100000 in
set_option maxHeartbeats 4000000 in
theorem restsTo_any (A : Option Addr) (n c cols : Nat) (rows : List (List Int)) (b : Int) (p1 p2 : Addr) (may : Nat → Bool) (w : World) (hr : RdG w A n rows) (hn : 0 < n ∧ n ≤ 40) (hcols : 0 < cols ∧ cols ≤ 12)
    (hrow : ∀ r ∈ rows, r.length = cols ∧ ∀ x ∈ r, 0 ≤ x ∧ x ≤ 255) (hb : 0 ≤ b ∧ b ≤ 1000)
    (hm : ∀ (k : Nat) (W : World), k < cols → Below w.heap.size w W → Calls Tryz.prog 80 #[.int .i64 k, .pointer (some p1), .pointer (some p2)] W fun e w' => e = .returned (.bool (may k)) ∧ W = w') :
    Calls Tryz.prog 79 #[.agg #[.slice A n c, .int .i64 b, .int .i64 cols], .func (.func 80) #[] #[.pointer (some p1), .pointer (some p2)]] w (RestRes w n (restsL may b cols rows)) := by
  have HG := Lib.hid hr
  have HR := Lib.hid hrow
  have HM := Lib.hid hm
  have HLen : Hid (rows.length = n) := hr.1
  have hmk := make_rows n (by omega)
  have hmi := make_ints cols (by omega)
  obtain ⟨X, hX⟩ : ∃ X, restsL may b cols rows = X := ⟨_, rfl⟩
  have HXlen : Hid (X.length = n) := by show _ = _; rw [← hX, restsL_length]; exact hr.1
  have HXl : Hid (∀ j, j < n → (X.getD j []).length = cols) := fun j hj => by rw [← hX]; exact restsL_rowlen may b cols rows (fun r h => (hrow r h).1) j (by rw [hr.1]; exact hj)
  have HXb : Hid (∀ j, j < n → ∀ x ∈ X.getD j [], 0 ≤ x ∧ x ≤ 200000) := fun j hj x hx => by
    have hmem : X.getD j [] ∈ restsL may b cols rows := by
      rw [← hX, List.getD_eq_getElem?_getD, List.getElem?_eq_getElem (by rw [restsL_length, hr.1]; exact hj)]
      exact List.getElem_mem _
    have := restsL_bd may b cols hb rows hrow (by rw [hr.1]; omega) _ hmem x hx
    have := hr.1
    omega
  have HXr : Hid (∀ j, j < n → X.getD j [] = if j + 1 = n then lastRow may (rows.getD j []) else stepRow b cols (X.getD (j + 1) []) (rows.getD j [])) := fun j hj => by
    have := restsL_row may b cols rows j (by rw [hr.1]; exact hj)
    rw [hX, hr.1] at this
    exact this
  rw [hX]
  clear hr hrow hm hX
  go_enter Tryz.func79, Tryz.ntmps79
  go_wp2
  go_loopw [7] (fun i wr => ∃ k : Nat, k ≤ n ∧ i = .int .i64 ((k : Int) - 1) ∧ Hid (RestI w A n c cols b X k wr)) (fun i _ => (intOf i + 1).toNat)
  case atStart =>
    refine ⟨n, Nat.le_refl _, rfl, ⟨(List.replicate n (Value.slice none 0 0)).toArray, ?_, by simp⟩, fun j h1 h2 => by omega, (Bk.new w _ _).alloc _, ((Below.refl _ w).alloc (Nat.le_refl _) _).alloc (by simp) _⟩
    have := Bk.new (w.alloc (.cells #[.slice A n c, .int .i64 b, .int .i64 cols] 104)) 22 (List.replicate n (Value.slice none 0 0)).toArray
    simpa using this
  case round =>
    obtain ⟨k, hk, rfl, HI⟩ := hrel
    cases k with
    | zero =>
      obtain ⟨⟨cur, hB, hcs⟩, hrows, hbox, hbel⟩ := HI.out
      have HB := Lib.hid hB
      have HRW := Lib.hid hrows
      have HBL := Lib.hid hbel
      clear hB hrows hbox hbel hcs HI
      go_wp2
      go_ret
      exact ⟨⟨_, rfl, HRW.out.rdG HB.out.lt HXlen.out HXl.out (by omega)⟩, HBL.out⟩
    | succ j =>
      have e0 : (((j + 1 : Nat) : Int) - 1) = (j : Int) := by omega
      rw [e0]
      clear e0
      obtain ⟨⟨cur, hB, hcs⟩, hrows, hbox, hbel⟩ := HI.out
      clear HI
      have c0 : wr.cell? ⟨w.heap.size, 0, none⟩ = some (.slice A n c) := by rw [hbox.cell]; rfl
      have c1 : wr.cell? ⟨w.heap.size, 1, none⟩ = some (.int .i64 b) := by rw [hbox.cell]; rfl
      have c2 : wr.cell? ⟨w.heap.size, 2, none⟩ = some (.int .i64 cols) := by rw [hbox.cell]; rfl
      have hBlt := hB.lt
      have hjn : j < n := by omega
      have hold : wr.cell? ⟨w.heap.size + 1, j, none⟩ = some cur[j] := by rw [hB.cell]; exact Array.getElem?_eq_getElem (by omega)
      have hfr : wr.frozen? ⟨w.heap.size + 1, j, none⟩ = false := hB.frozen j
      obtain ⟨o, ho⟩ : ∃ o, cur[j] = o := ⟨_, rfl⟩
      rw [ho] at hold
      clear ho
      have HI0 : Hid (InnerI w A n c cols b X j wr.heap.size 0 ((wr.setCell ⟨w.heap.size + 1, j, none⟩ (.slice (some ⟨wr.heap.size, 0, none⟩) cols cols)).alloc (.cells (iArr (List.replicate cols 0)) 3))) := by
        have hz : (wr.setCell ⟨w.heap.size + 1, j, none⟩ (.slice (some ⟨wr.heap.size, 0, none⟩) cols cols)).heap.size = wr.heap.size := by simp
        have hfar : ∀ g, g ≠ w.heap.size + 1 → g < wr.heap.size → ((wr.setCell ⟨w.heap.size + 1, j, none⟩ (.slice (some ⟨wr.heap.size, 0, none⟩) cols cols)).alloc (.cells (iArr (List.replicate cols 0)) 3)).heap[g]? = wr.heap[g]? := fun g hg hlt => (Below.heap_alloc _ _ _ (by rw [hz]; exact hlt)).trans (Below.heap_setCell _ _ _ _ hg)
        refine ⟨?_, ⟨_, (hB.set_ j _).alloc _, by simp [hcs], by rw [Array.getElem?_setIfInBounds, if_pos rfl, if_pos (by omega)]⟩, hrows.keep (Nat.le_refl _) (fun i hi hin => ?_) (fun g hg hlt => hfar g (by omega) hlt), (hfar _ (by omega) hbox.lt).trans hbox, (hbel.setCell (p := ⟨w.heap.size + 1, j, none⟩) (by dsimp only; omega) _).alloc (by rw [hz]; exact hbel.size) _, hBlt⟩
        · rw [padR_zero]
          have := Bk.new (wr.setCell ⟨w.heap.size + 1, j, none⟩ (.slice (some ⟨wr.heap.size, 0, none⟩) cols cols)) 3 (iArr (List.replicate cols 0))
          rw [hz] at this
          exact this
        · rw [World.cell?_alloc_lt _ _ _ (by rw [hz]; exact hBlt)]
          exact World.cell?_setCell_other _ _ _ _ (by intro e; injection e; omega)
      obtain ⟨ad, hA, hadb, hca⟩ := HG.out.2 (by omega)
      subst hA
      obtain ⟨Bj, m, cj, hck0, hrd, _⟩ := hca j hjn
      clear hca
      have hrl : rows.getD j [] ∈ rows := by
        rw [List.getD_eq_getElem?_getD, List.getElem?_eq_getElem (by rw [HLen.out]; exact hjn)]
        exact List.getElem_mem _
      obtain rfl : m = cols := by rw [← hrd.1]; exact (HR.out _ hrl).1
      have HRD := Lib.hid hrd
      have HRV := Lib.hid (HR.out _ hrl).2
      clear hrd hrl
      clear hB hrows hbox hbel hcs
      go_upto_region 7 with (fail)
      obtain ⟨W2, hW2⟩ : ∃ W2, ((wr.setCell ⟨w.heap.size + 1, j, none⟩ (.slice (some ⟨wr.heap.size, 0, none⟩) m m)).alloc (.cells (iArr (List.replicate m 0)) 3)) = W2 := ⟨_, rfl⟩
      rw [hW2] at HI0 ⊢
      clear hW2 c0 c1 c2 hold hfr
      have c0 : W2.cell? ⟨w.heap.size, 0, none⟩ = some (.slice (some ad) n c) := by rw [HI0.out.2.2.2.1.cell]; rfl
      have hck : W2.cell? (ad.add j) = some (.slice Bj m cj) := (HI0.out.2.2.2.2.1.cell (by rw [addBlock]; exact hadb)).trans hck0
      clear hck0 hadb
      obtain ⟨adj, hBj, hadj, hcq⟩ := HRD.out.2 (by omega)
      subst hBj
      have HCQ := Lib.hid hcq
      clear hcq
      obtain ⟨C, hC⟩ : ∃ C, wr.heap.size = C := ⟨_, rfl⟩
      rw [hC] at HI0 hBlt ⊢
      clear hC
      go_wp2
      go_loopw [37] (fun i wr2 => ∃ q : Nat, q ≤ m ∧ i = .int .i64 q ∧ Hid (InnerI w (some ad) n c m b X j C q wr2)) (fun i _ => m - (intOf i).toNat)
      case atStart => exact ⟨0, Nat.zero_le _, rfl, HI0.out⟩
      case round =>
        obtain ⟨q, hq, rfl, HI⟩ := hrel
        by_cases hlt : q < m
        · have hqI : (q : Int) < (m : Int) := by omega
          have hvq := (HI.out.2.2.2.2.1.cell (p := adj.add q) (by rw [addBlock]; exact hadj)).trans (HCQ.out q hlt)
          have hvb : 0 ≤ (rows.getD j []).getD q 0 ∧ (rows.getD j []).getD q 0 ≤ 255 := HRV.out _ (by
            rw [List.getD_eq_getElem?_getD (l := rows.getD j []), List.getElem?_eq_getElem (by rw [HRD.out.1]; exact hlt)]
            exact List.getElem_mem _)
          obtain ⟨cur, hB, hcs, hcj⟩ := HI.out.2.1
          have hcB : wr.cell? ⟨w.heap.size + 1, j, none⟩ = some (.slice (some ⟨C, 0, none⟩) m m) := by rw [hB.cell]; exact hcj
          have hcC : wr.cell? ⟨C, q, none⟩ = some (.int .i64 ((padR (X.getD j []) q m).getD q 0)) := by rw [HI.out.1.cell]; exact iArr_at _ _ (by rw [padR_length]; exact hlt)
          have hfC : wr.frozen? ⟨C, q, none⟩ = false := HI.out.1.frozen q
          obtain ⟨o, ho⟩ : ∃ o, (padR (X.getD j []) q m).getD q 0 = o := ⟨_, rfl⟩
          rw [ho] at hcC
          have hXv : Hid ((X.getD j []).getD q 0 = (rows.getD j []).getD q 0 + if j + 1 = n then (if may q = true then 0 else 50200) else (chp (X.getD (j + 1) []) b q m).2) := by
            show _ = _
            rw [HXr.out j hjn]
            by_cases e : j + 1 = n
            · rw [if_pos e, if_pos e, lastRow_at _ _ _ (by rw [HRD.out.1]; exact hlt)]
            · rw [if_neg e, if_neg e, stepRow_at _ _ _ _ _ (by rw [HRD.out.1]; exact hlt)]
          obtain ⟨v, hv⟩ : ∃ v, (rows.getD j []).getD q 0 = v := ⟨_, rfl⟩
          rw [hv] at hvq hvb hXv
          clear ho hcj hcs hB hv
          by_cases hl : j + 1 = n
          · have hl1 : decide ((j : Int) < (n : Int) - 1) = false := decide_eq_false (by omega)
            have hl2 : ¬ (j : Int) < (n : Int) - 1 := by omega
            rw [if_pos hl] at hXv
            have CM := Lib.hid (HM.out q wr hlt HI.out.2.2.2.2.1)
            have HL := Lib.hid hl
            clear hl
            cases hmq : may q with
            | true =>
              rw [hmq] at hXv CM
              have HX : Hid ((X.getD j []).getD q 0 = v) := by show _ = _; rw [hXv.out]; simp
              clear hXv hmq
              have hw0 : IntKind.i64.wrap (v + 0) = v := by rw [Int.add_zero]; exact IntWalk.i64_in _ (by omega)
              have hw1 : IntKind.i64.wrap v = v := IntWalk.i64_in _ (by omega)
              go_wp2_with (go_at_call 80; refine CM.out.mono ?_; rintro e w' ⟨rfl, rfl⟩)
              go_roundw
              case rel => exact ⟨q + 1, by omega, by go_num, HI.out.step (Below.refl _ _) HX.out⟩
              case measure => simp [intOf]; omega
            | false =>
              rw [hmq] at hXv CM
              have HX : Hid ((X.getD j []).getD q 0 = v + 50200) := by show _ = _; rw [hXv.out]; simp
              clear hXv hmq
              have hw0 : IntKind.i64.wrap (v + 50200) = v + 50200 := IntWalk.i64_in _ (by omega)
              go_wp2_with (go_at_call 80; refine CM.out.mono ?_; rintro e w' ⟨rfl, rfl⟩)
              go_roundw
              case rel => exact ⟨q + 1, by omega, by go_num, HI.out.step (Below.refl _ _) HX.out⟩
              case measure => simp [intOf]; omega
          · have hl1 : decide ((j : Int) < (n : Int) - 1) = true := decide_eq_true (by omega)
            have hl2 : (j : Int) < (n : Int) - 1 := by omega
            rw [if_neg hl] at hXv
            obtain ⟨g, hg1, hg2, hg3, hg4⟩ := HI.out.2.2.1 (j + 1) (Nat.le_refl _) (by omega)
            have d0 : wr.cell? ⟨w.heap.size, 0, none⟩ = some (.slice (some ad) n c) := by rw [HI.out.2.2.2.1.cell]; rfl
            have d1 : wr.cell? ⟨w.heap.size, 1, none⟩ = some (.int .i64 b) := by rw [HI.out.2.2.2.1.cell]; rfl
            have d2 : wr.cell? ⟨w.heap.size, 2, none⟩ = some (.int .i64 m) := by rw [HI.out.2.2.2.1.cell]; rfl
            have hXj := HXl.out (j + 1) (by omega)
            have hXjb := HXb.out (j + 1) (by omega)
            have HRDI : Hid (RdI wr (some ⟨g, 0, none⟩) m (X.getD (j + 1) [])) := rd_of_bk hg4 hXj
            have hsp := chp_spec (X.getD (j + 1) []) b 200000 q m hlt hXj hb.1 (by omega) hXjb
            have HC : Hid (∀ W', Below wr.heap.size wr W' → Calls Tryz.prog 82 #[.agg #[.slice (some ad) n c, .int .i64 b, .int .i64 m], .slice (some ⟨g, 0, none⟩) m m, .int .i64 q] W' fun e w' =>
                e = .returned (.tuple #[.int .i64 (chp (X.getD (j + 1) []) b q m).1, .int .i64 (chp (X.getD (j + 1) []) b q m).2]) ∧ Below W'.heap.size W' w') := fun W' hW' =>
              cheapest_any _ b m q _ m (X.getD (j + 1) []) W' hlt (by omega) (HRDI.out.below hW') ⟨hb.1, by omega⟩ (fun x hx => by have := hXjb x hx; omega)
            obtain ⟨⟨y, a⟩, hya⟩ : ∃ p, chp (X.getD (j + 1) []) b q m = p := ⟨_, rfl⟩
            rw [hya] at HC hXv hsp
            dsimp only at HC hXv hsp
            have hab : 0 ≤ a ∧ a ≤ 201000 := by have := hsp.2.2; omega
            have HX := Lib.hid hXv.out
            have HS0 : Hid (((fun w' : World => w'.cell? ⟨w.heap.size, 0, none⟩ = some (.slice (some ad) n c) ∧ w'.cell? ⟨w.heap.size, 1, none⟩ = some (.int .i64 b) ∧ w'.cell? ⟨w.heap.size, 2, none⟩ = some (.int .i64 m) ∧ w'.cell? ⟨w.heap.size + 1, j + 1, none⟩ = some (.slice (some ⟨g, 0, none⟩) m m) ∧ Below wr.heap.size wr w')) wr.drew) := ⟨d0, d1, d2, hg1, (Below.refl _ _).drew⟩
            have HSB : Hid (∀ (W W' : World), ((fun w' : World => w'.cell? ⟨w.heap.size, 0, none⟩ = some (.slice (some ad) n c) ∧ w'.cell? ⟨w.heap.size, 1, none⟩ = some (.int .i64 b) ∧ w'.cell? ⟨w.heap.size, 2, none⟩ = some (.int .i64 m) ∧ w'.cell? ⟨w.heap.size + 1, j + 1, none⟩ = some (.slice (some ⟨g, 0, none⟩) m m) ∧ Below wr.heap.size wr w')) W → Below W.heap.size W W' → ((fun w' : World => w'.cell? ⟨w.heap.size, 0, none⟩ = some (.slice (some ad) n c) ∧ w'.cell? ⟨w.heap.size, 1, none⟩ = some (.int .i64 b) ∧ w'.cell? ⟨w.heap.size, 2, none⟩ = some (.int .i64 m) ∧ w'.cell? ⟨w.heap.size + 1, j + 1, none⟩ = some (.slice (some ⟨g, 0, none⟩) m m) ∧ Below wr.heap.size wr w')) W') := by
              rintro W W' ⟨e1, e2, e3, e4, e5⟩ hb'
              have k1 := World.block_lt_of_cell? _ _ e1
              have k2 := World.block_lt_of_cell? _ _ e4
              exact ⟨(hb'.cell k1).trans e1, (hb'.cell (p := ⟨w.heap.size, 1, none⟩) k1).trans e2, (hb'.cell (p := ⟨w.heap.size, 2, none⟩) k1).trans e3, (hb'.cell k2).trans e4, e5.trans (hb'.mono e5.size)⟩
            have hz2 : IntKind.i64.wrap ((j : Int) + 1) = (j : Int) + 1 := IntWalk.i64_in _ (by omega)
            have hz3 : (0 : Int) ≤ (j : Int) + 1 := by omega
            have hz4 : ((j : Int) + 1).toNat = j + 1 := by omega
            have hz5 : (j : Int) + 1 < (n : Int) := by omega
            have hwva : IntKind.i64.wrap (v + a) = v + a := IntWalk.i64_in _ (by omega)
            have hsB : w.heap.size + 1 < wr.heap.size := by have := HI.out.2.2.2.2.2; have := HI.lt; omega
            have hsC : C < wr.heap.size := HI.lt
            clear hg1 hg2 hg3 hg4 d0 d1 d2 hXj hXjb hsp hya hXv
            go_wp2_with fail
            refine wp_region_held_drew (S := (fun w' : World => w'.cell? ⟨w.heap.size, 0, none⟩ = some (.slice (some ad) n c) ∧ w'.cell? ⟨w.heap.size, 1, none⟩ = some (.int .i64 b) ∧ w'.cell? ⟨w.heap.size, 2, none⟩ = some (.int .i64 m) ∧ w'.cell? ⟨w.heap.size + 1, j + 1, none⟩ = some (.slice (some ⟨g, 0, none⟩) m m) ∧ Below wr.heap.size wr w')) (by kernel_rfl) ?_ ?_
            · first | (with_reducible assumption) | exact HSB.out _ _ hHeldOld hbc | exact HS0.out
            intro hHeld
            refine wpAnyH_take (i := 0) (v := ?_) rfl (by kernel_rfl) (by kernel_rfl) (by kernel_rfl) (fun _ _ _ h => h) (Or.inl ⟨by rfl, ?_⟩) (by assumption) ?_
            rotate_left
            · intro w hSw; (try dsimp only at hSw); go_simp; (try (with_reducible rfl))
            try simp only [List.getElem_toArray, List.getElem_cons_succ, List.getElem_cons_zero, Act.put, List.setIfInBounds_toArray, List.set_cons_zero, List.set_cons_succ]
            refine wpAnyH_take (i := 1) (v := ?_) rfl (by kernel_rfl) (by kernel_rfl) (by kernel_rfl) (fun _ _ _ h => h) (Or.inl ⟨by rfl, ?_⟩) (by assumption) ?_
            rotate_left
            · intro w hSw; (try dsimp only at hSw); go_simp; (try (with_reducible rfl))
            try simp only [List.getElem_toArray, List.getElem_cons_succ, List.getElem_cons_zero, Act.put, List.setIfInBounds_toArray, List.set_cons_zero, List.set_cons_succ]
            refine wpAnyH_take (i := 2) (v := ?_) rfl (by kernel_rfl) (by kernel_rfl) (by kernel_rfl) (fun _ _ _ h => h) (Or.inl ⟨by rfl, ?_⟩) (by assumption) ?_
            rotate_left
            · intro w hSw; (try dsimp only at hSw); go_simp; (try (with_reducible rfl))
            try simp only [List.getElem_toArray, List.getElem_cons_succ, List.getElem_cons_zero, Act.put, List.setIfInBounds_toArray, List.set_cons_zero, List.set_cons_succ]
            refine wpAnyH_take (i := 3) (v := ?_) rfl (by kernel_rfl) (by kernel_rfl) (by kernel_rfl) (fun _ _ _ h => h) (Or.inl ⟨by rfl, ?_⟩) (by assumption) ?_
            rotate_left
            · intro w hSw; (try dsimp only at hSw); go_simp; (try (with_reducible rfl))
            try simp only [List.getElem_toArray, List.getElem_cons_succ, List.getElem_cons_zero, Act.put, List.setIfInBounds_toArray, List.set_cons_zero, List.set_cons_succ]
            refine wpAnyH_take (i := 4) (v := ?_) rfl (by kernel_rfl) (by kernel_rfl) (by kernel_rfl) (fun _ _ _ h => h) (Or.inl ⟨by rfl, ?_⟩) (by assumption) ?_
            rotate_left
            · intro w hSw; (try dsimp only at hSw); go_simp; (try (with_reducible rfl))
            try simp only [List.getElem_toArray, List.getElem_cons_succ, List.getElem_cons_zero, Act.put, List.setIfInBounds_toArray, List.set_cons_zero, List.set_cons_succ]
            refine wpAnyH_take (i := 5) (v := ?_) rfl (by kernel_rfl) (by kernel_rfl) (by kernel_rfl) (fun _ _ _ h => h) (Or.inl ⟨by rfl, ?_⟩) (by assumption) ?_
            rotate_left
            · intro w hSw; (try dsimp only at hSw); go_simp; (try (with_reducible rfl))
            try simp only [List.getElem_toArray, List.getElem_cons_succ, List.getElem_cons_zero, Act.put, List.setIfInBounds_toArray, List.set_cons_zero, List.set_cons_succ]
            refine wpAnyH_take (i := 6) (v := ?_) rfl (by kernel_rfl) (by kernel_rfl) (by kernel_rfl) (fun _ _ _ h => h) (Or.inl ⟨by rfl, ?_⟩) (by assumption) ?_
            rotate_left
            · intro w hSw; (try dsimp only at hSw); go_simp; (try (with_reducible rfl))
            try simp only [List.getElem_toArray, List.getElem_cons_succ, List.getElem_cons_zero, Act.put, List.setIfInBounds_toArray, List.set_cons_zero, List.set_cons_succ]
            refine wpAnyH_ready (rs := [7]) (by kernel_rfl) (by simp) ?_
            refine AllReadyH.cons rfl (fun K hK => ?_) AllReadyH.nil
            go_simp
            have hHeldOld := hHeld; go_at_call 82; refine (HC.out _ hHeldOld.2.2.2.2).mono ?_; rintro e w' ⟨rfl, hbc⟩
            go_wp2_with fail
            refine hK.out _ _ ?_ (fun hHeld => ?_)
            · clear hK K; first | (with_reducible assumption) | exact HSB.out _ _ hHeldOld hbc | exact HS0.out
            clear hK K
            try simp only [List.getElem_toArray, List.getElem_cons_succ, List.getElem_cons_zero, Act.put, List.setIfInBounds_toArray, List.set_cons_zero, List.set_cons_succ]
            refine wpAnyH_take (i := 8) (v := ?_) rfl (by kernel_rfl) (by kernel_rfl) (by kernel_rfl) (fun _ _ _ h => h) (Or.inl ⟨by rfl, ?_⟩) (by assumption) ?_
            rotate_left
            · intro w hSw; (try dsimp only at hSw); go_simp; (try (with_reducible rfl))
            try simp only [List.getElem_toArray, List.getElem_cons_succ, List.getElem_cons_zero, Act.put, List.setIfInBounds_toArray, List.set_cons_zero, List.set_cons_succ]
            refine wpAnyH_take (i := 9) (v := ?_) rfl (by kernel_rfl) (by kernel_rfl) (by kernel_rfl) (fun _ _ _ h => h) (Or.inl ⟨by rfl, ?_⟩) (by assumption) ?_
            rotate_left
            · intro w hSw; (try dsimp only at hSw); go_simp; (try (with_reducible rfl))
            try simp only [List.getElem_toArray, List.getElem_cons_succ, List.getElem_cons_zero, Act.put, List.setIfInBounds_toArray, List.set_cons_zero, List.set_cons_succ]
            refine wpAnyH_take (i := 10) (v := ?_) rfl (by kernel_rfl) (by kernel_rfl) (by kernel_rfl) (fun _ _ _ h => h) (Or.inl ⟨by rfl, ?_⟩) (by assumption) ?_
            rotate_left
            · intro w hSw; (try dsimp only at hSw); go_simp; (try (with_reducible rfl))
            try simp only [List.getElem_toArray, List.getElem_cons_succ, List.getElem_cons_zero, Act.put, List.setIfInBounds_toArray, List.set_cons_zero, List.set_cons_succ]
            refine wpAnyH_take (i := 11) (v := ?_) rfl (by kernel_rfl) (by kernel_rfl) (by kernel_rfl) (fun _ _ _ h => h) (Or.inl ⟨by rfl, ?_⟩) (by assumption) ?_
            rotate_left
            · intro w hSw; (try dsimp only at hSw); go_simp; (try (with_reducible rfl))
            try simp only [List.getElem_toArray, List.getElem_cons_succ, List.getElem_cons_zero, Act.put, List.setIfInBounds_toArray, List.set_cons_zero, List.set_cons_succ]
            refine wpAnyH_done (by kernel_rfl) ?_ _
            have hcB' := (hHeld.2.2.2.2.cell (p := ⟨w.heap.size + 1, j, none⟩) hsB).trans hcB
            have hcC' := (hHeld.2.2.2.2.cell (p := ⟨C, q, none⟩) hsC).trans hcC
            have hfC' := (hHeld.2.2.2.2.frozen (p := ⟨C, q, none⟩) hsC).trans hfC
            have HBW := Lib.hid hHeld.2.2.2.2
            clear hHeld HC HS0 HSB hz2 hz3 hz4 hz5 hcB hcC hfC
            go_wp2
            go_roundw
            case rel => exact ⟨q + 1, by omega, by go_num, HI.out.step HBW.out HX.out⟩
            case measure => simp [intOf]; omega
        · obtain rfl : q = m := by omega
          go_wp2
          exact ⟨⟨j, by omega, rfl, HI.out.done_ (HXl.out j hjn)⟩, by simp [intOf]⟩
end Go.Proofs.YtjjflbnopphciaaGreatDoor

namespace Go.Proofs.YtjjflbnopphciaaGreatDoor
open Go.RowKit

theorem add_add' (a : Addr) (m n : Nat) : (a.add m).add n = a.add (m + n) := by
  unfold Addr.add
  by_cases hm : m = 0
  · subst hm; simp
  · by_cases hn : n = 0
    · subst hn; simp
    · rw [if_neg hm, if_neg hn, if_neg (by omega)]
      simp [Nat.add_assoc]
def cutA (a : Option Addr) (lo c : Nat) : Option Addr := if c = lo then a else a.map (·.add (lo * 1))
theorem rowElem : Tryz.prog.elem 39 = 22 := by kernel_rfl
theorem rowsUnder' : Tryz.prog.underlying 39 = some (.slice (Tryz.prog.elem 39)) := by kernel_rfl
theorem sizeOfRow (W : World) : (sizeOf 22).run Tryz.prog W = .ok 1 W := by kernel_rfl
theorem cutRows_run (a : Option Addr) (n c lo m d : Nat) (l : Int) (hl : l = lo) (h1 : lo ≤ n) (hm : n - lo = m) (hd : c - lo = d) (W : World) :
    (Instr.slice 39 (.slice a n c) (some (.int .i64 l)) none none).run Tryz.prog W = .ok (.slice (cutA a lo c) m d) W := by
  have := run_slice_l (P := Tryz.prog) (w := W) 39 a n c rowsUnder' .i64 l (by omega) (by omega)
  rw [this, rowElem, sizeOfRow, ← hm, ← hd, hl]
  rfl

theorem ownBelow {w w' : World} {base : Nat} {e : TypeId} {size : Nat} {v : Value} {n : Nat} {xs : List Value} (h : w.ownsRow base e size v n xs) (hb : Below w.heap.size w w') : w'.ownsRow base e size v n xs := by
  refine ⟨h.1, ?_⟩
  rcases h.2 with h0 | ⟨g, cap, cur, h1, h2, h3, h4⟩
  · exact .inl h0
  · exact .inr ⟨g, cap, cur, h1, h2, (hb.block g (Array.getElem?_eq_some_iff.1 h3).1).trans h3, h4⟩

/-- The columns of the path along the rests. -/
def colAt (b : Int) (cols : Nat) (X : List (List Int)) (first : Nat) : Nat → Nat
  | 0 => first
  | k + 1 => (chp (X.getD (k + 1) []) b (colAt b cols X first k) cols).1.toNat
def pathL (b : Int) (cols : Nat) (X : List (List Int)) (first n : Nat) : List Int := (List.range n).map fun k => (colAt b cols X first k : Int)
theorem pathL_length (b : Int) (cols : Nat) (X : List (List Int)) (first n : Nat) : (pathL b cols X first n).length = n := by simp [pathL]
theorem pathL_succ (b : Int) (cols : Nat) (X : List (List Int)) (first n : Nat) : pathL b cols X first (n + 1) = pathL b cols X first n ++ [(colAt b cols X first n : Int)] := by simp [pathL, List.range_succ]
theorem pathL_at (b : Int) (cols : Nat) (X : List (List Int)) (first n k : Nat) (h : k < n) : (pathL b cols X first n).getD k 0 = colAt b cols X first k := by
  simp [pathL, List.getD_eq_getElem?_getD, h]
theorem colAt_step {b : Int} {cols : Nat} {X : List (List Int)} {first n : Nat} (hf : first < cols) (hb : 0 ≤ b ∧ b ≤ 1000) (hX : ∀ j, j < n → (X.getD j []).length = cols ∧ ∀ x ∈ X.getD j [], 0 ≤ x ∧ x ≤ 200000) :
    ∀ k, k < n → colAt b cols X first k < cols ∧ (k + 1 < n → (chp (X.getD (k + 1) []) b (colAt b cols X first k) cols).1 = colAt b cols X first (k + 1))
  | 0, h => by
    refine ⟨hf, fun h1 => ?_⟩
    have hx := hX 1 h1
    have hs := chp_spec (X.getD 1 []) b 200000 first cols hf hx.1 hb.1 (by omega) hx.2
    have := nbrs_near hf hs.1
    show (chp (X.getD 1 []) b first cols).1 = (((chp (X.getD 1 []) b first cols).1.toNat : Nat) : Int)
    omega
  | k + 1, h => by
    have ih := colAt_step (first := first) hf hb hX k (by omega)
    have hc : colAt b cols X first (k + 1) < cols := by
      have hx := hX (k + 1) h
      have hs := chp_spec (X.getD (k + 1) []) b 200000 _ cols ih.1 hx.1 hb.1 (by omega) hx.2
      have := nbrs_near ih.1 hs.1
      show (chp (X.getD (k + 1) []) b (colAt b cols X first k) cols).1.toNat < cols
      omega
    refine ⟨hc, fun h1 => ?_⟩
    have hx := hX (k + 2) h1
    have hs := chp_spec (X.getD (k + 2) []) b 200000 _ cols hc hx.1 hb.1 (by omega) hx.2
    have := nbrs_near hc hs.1
    show (chp (X.getD (k + 2) []) b (colAt b cols X first (k + 1)) cols).1 = (((chp (X.getD (k + 2) []) b (colAt b cols X first (k + 1)) cols).1.toNat : Nat) : Int)
    omega

set_option maxRecDepth 100000 in
set_option maxHeartbeats 4000000 in
theorem pathAlong_any (sv : Value) (A : Option Addr) (n cols first : Nat) (X : List (List Int)) (b : Int) (w : World) (hr : RdG w A n X) (hn : 0 < n ∧ n ≤ 40) (hcols : 0 < cols ∧ cols ≤ 12) (hf : first < cols) (hb : 0 ≤ b ∧ b ≤ 1000)
    (hX : ∀ j, j < n → (X.getD j []).length = cols ∧ ∀ x ∈ X.getD j [], 0 ≤ x ∧ x ≤ 200000) :
    Calls Tryz.prog 81 #[.agg #[sv, .int .i64 b, .int .i64 cols], .slice A n n, .int .i64 first] w (OwnS w (pathL b cols X first n)) := by
  have HG := Lib.hid hr
  have HX := Lib.hid hX
  have HST := Lib.hid (colAt_step hf hb hX)
  have hcut := cutRows_run A n n 1 (n - 1) (n - 1) 1 rfl (by omega) rfl rfl
  obtain ⟨A1, hA1⟩ : ∃ A1, cutA A 1 n = A1 := ⟨_, rfl⟩
  rw [hA1] at hcut
  have HA1 := Lib.hid hA1
  clear hr hX hA1
  obtain ⟨i0, hi0, hz0, hz1, hz2⟩ := info_parts intInfo'
  go_enter Tryz.func81, Tryz.ntmps81
  go_wp2
  go_loopw [7, 17] (fun p i wr => ∃ k : Nat, k ≤ n - 1 ∧ i = .int .i64 k ∧ Hid (wr.ownsRow (w.heap.size + 1) 3 1 p (k + 1) ((pathL b cols X first (k + 1)).map (Value.int .i64)) ∧ Bk wr w.heap.size 104 #[sv, .int .i64 b, .int .i64 cols] ∧ Below w.heap.size w wr)) (fun _ i _ => n - (intOf i).toNat)
  case atStart =>
    refine ⟨0, Nat.zero_le _, rfl, ?_, (Bk.new w _ _).alloc _, ((Below.refl _ w).alloc (Nat.le_refl _) _).alloc (by simp) _⟩
    have := own_of_bk (w := (w.alloc (.cells #[sv, .int .i64 b, .int .i64 cols] 104)).alloc (.cells #[.int .i64 first] 3)) (base := w.heap.size + 1) (g := w.heap.size + 1) (xs := [(first : Int)]) 1 (by
      have := Bk.new (w.alloc (.cells #[sv, .int .i64 b, .int .i64 cols] 104)) 3 #[.int .i64 (first : Int)]
      simpa [iArr] using this) rfl (Nat.le_refl _) (by omega)
    exact this
  case round =>
    obtain ⟨k, hk, rfl, HI⟩ := hrel
    by_cases hlt : k < n - 1
    · have hkI : (k : Int) < ((n - 1 : Nat) : Int) := by omega
      obtain ⟨g, cap, hp⟩ := ownsRow_succ HI.out.1
      subst hp
      obtain ⟨ad, hA, hadb, hca⟩ := HG.out.2 (by omega)
      subst hA
      have hA1' : A1 = some (ad.add 1) := by rw [← HA1.out]; unfold cutA; rw [if_neg (by omega)]; rfl
      obtain ⟨ad1, had1⟩ : ∃ a1, ad.add 1 = a1 := ⟨_, rfl⟩
      rw [had1] at hA1'
      subst hA1'
      have HAD1 := Lib.hid had1
      clear had1
      obtain ⟨Bj, m, cj, hck0, hrd, _⟩ := hca (k + 1) (by omega)
      clear hca
      have hXk := HX.out (k + 1) (by omega)
      obtain rfl : m = cols := by rw [← hrd.1]; exact hXk.1
      have hck : wr.cell? (ad1.add k) = some (.slice Bj m cj) := by
        rw [← HAD1.out, add_add', Nat.add_comm 1 k]
        exact (HI.out.2.2.cell (by rw [addBlock]; exact hadb)).trans hck0
      have hst := HST.out k (by omega)
      have hpc : wr.cell? ⟨g, k, none⟩ = some (.int .i64 (colAt b m X first k)) := by
        have := HI.out.1.cells (g := g) rfl k (.int .i64 (colAt b m X first k)) (by
          rw [List.getElem?_map]
          have : (pathL b m X first (k + 1))[k]? = some (colAt b m X first k : Int) := by simp [pathL]
          rw [this]; rfl)
        rw [addOff] at this
        exact this
      obtain ⟨q, hq⟩ : ∃ q, colAt b m X first k = q := ⟨_, rfl⟩
      have HQ := Lib.hid hq
      have hsucc := pathL_succ b m X first (k + 1)
      rw [← hst.2 (by omega), hq] at hsucc
      rw [hq] at hpc hst
      clear hq
      have hqm := hst.1
      have d0 : wr.cell? ⟨w.heap.size, 0, none⟩ = some sv := by rw [HI.out.2.1.cell]; rfl
      have d1 : wr.cell? ⟨w.heap.size, 1, none⟩ = some (.int .i64 b) := by rw [HI.out.2.1.cell]; rfl
      have d2 : wr.cell? ⟨w.heap.size, 2, none⟩ = some (.int .i64 m) := by rw [HI.out.2.1.cell]; rfl
      have HRDI : Hid (RdI wr Bj m (X.getD (k + 1) [])) := hrd.below HI.out.2.2
      have HC : Hid (∀ W', Below wr.heap.size wr W' → Calls Tryz.prog 82 #[.agg #[sv, .int .i64 b, .int .i64 m], .slice Bj m cj, .int .i64 q] W' fun e w' =>
          e = .returned (.tuple #[.int .i64 (chp (X.getD (k + 1) []) b q m).1, .int .i64 (chp (X.getD (k + 1) []) b q m).2]) ∧ Below W'.heap.size W' w') := fun W' hW' =>
        cheapest_any _ b m q _ cj (X.getD (k + 1) []) W' hqm (by omega) (HRDI.out.below hW') ⟨hb.1, by omega⟩ (fun x hx => by have := hXk.2 x hx; omega)
      obtain ⟨⟨y, a⟩, hya⟩ : ∃ p, chp (X.getD (k + 1) []) b q m = p := ⟨_, rfl⟩
      rw [hya] at HC hsucc
      dsimp only at HC hsucc
      have HSU := Lib.hid hsucc
      have HS0 : Hid ((fun w' : World => w'.cell? ⟨w.heap.size, 0, none⟩ = some sv ∧ w'.cell? ⟨w.heap.size, 1, none⟩ = some (.int .i64 b) ∧ w'.cell? ⟨w.heap.size, 2, none⟩ = some (.int .i64 m) ∧ w'.cell? ⟨g, k, none⟩ = some (.int .i64 q) ∧ Below wr.heap.size wr w') wr.drew) := ⟨d0, d1, d2, hpc, (Below.refl _ _).drew⟩
      have HSB : Hid (∀ (W W' : World), (fun w' : World => w'.cell? ⟨w.heap.size, 0, none⟩ = some sv ∧ w'.cell? ⟨w.heap.size, 1, none⟩ = some (.int .i64 b) ∧ w'.cell? ⟨w.heap.size, 2, none⟩ = some (.int .i64 m) ∧ w'.cell? ⟨g, k, none⟩ = some (.int .i64 q) ∧ Below wr.heap.size wr w') W → Below W.heap.size W W' → (fun w' : World => w'.cell? ⟨w.heap.size, 0, none⟩ = some sv ∧ w'.cell? ⟨w.heap.size, 1, none⟩ = some (.int .i64 b) ∧ w'.cell? ⟨w.heap.size, 2, none⟩ = some (.int .i64 m) ∧ w'.cell? ⟨g, k, none⟩ = some (.int .i64 q) ∧ Below wr.heap.size wr w') W') := by
        rintro W W' ⟨e1, e2, e3, e4, e5⟩ hb'
        have k1 := World.block_lt_of_cell? _ _ e1
        have k2 := World.block_lt_of_cell? _ _ e4
        exact ⟨(hb'.cell k1).trans e1, (hb'.cell (p := ⟨w.heap.size, 1, none⟩) k1).trans e2, (hb'.cell (p := ⟨w.heap.size, 2, none⟩) k1).trans e3, (hb'.cell k2).trans e4, e5.trans (hb'.mono e5.size)⟩
      have hz2 : IntKind.i64.wrap (((k + 1 : Nat) : Int) - 1) = (k : Int) := by rw [show ((k + 1 : Nat) : Int) - 1 = (k : Int) by omega]; exact IntWalk.i64_in _ (by omega)
      have hz3 : IntKind.i64.wrap ((k : Int) + 1 - 1) = (k : Int) := by rw [show (k : Int) + 1 - 1 = (k : Int) by omega]; exact IntWalk.i64_in _ (by omega)
      have hz4 : IntKind.i64.wrap (k : Int) = (k : Int) := IntWalk.i64_in _ (by omega)
      have hz5 : (k : Int) < (k : Int) + 1 := by omega
      clear hst hya hXk hrd hck0 hpc d0 d1 d2 hsucc HRDI
      go_wp2_with fail
      refine wp_region_held_drew (S := (fun w' : World => w'.cell? ⟨w.heap.size, 0, none⟩ = some sv ∧ w'.cell? ⟨w.heap.size, 1, none⟩ = some (.int .i64 b) ∧ w'.cell? ⟨w.heap.size, 2, none⟩ = some (.int .i64 m) ∧ w'.cell? ⟨g, k, none⟩ = some (.int .i64 q) ∧ Below wr.heap.size wr w')) (by kernel_rfl) ?_ ?_
      · first | (with_reducible assumption) | exact HSB.out _ _ hHeldOld hbc | exact HS0.out
      intro hHeld
      refine wpAnyH_take (i := 0) (v := ?_) rfl (by kernel_rfl) (by kernel_rfl) (by kernel_rfl) (fun _ _ _ h => h) (Or.inl ⟨by rfl, ?_⟩) (by assumption) ?_
      rotate_left
      · intro w hSw; (try dsimp only at hSw); go_simp; (try (with_reducible rfl))
      try simp only [List.getElem_toArray, List.getElem_cons_succ, List.getElem_cons_zero, Act.put, List.setIfInBounds_toArray, List.set_cons_zero, List.set_cons_succ]
      refine wpAnyH_take (i := 1) (v := ?_) rfl (by kernel_rfl) (by kernel_rfl) (by kernel_rfl) (fun _ _ _ h => h) (Or.inl ⟨by rfl, ?_⟩) (by assumption) ?_
      rotate_left
      · intro w hSw; (try dsimp only at hSw); go_simp; (try (with_reducible rfl))
      try simp only [List.getElem_toArray, List.getElem_cons_succ, List.getElem_cons_zero, Act.put, List.setIfInBounds_toArray, List.set_cons_zero, List.set_cons_succ]
      refine wpAnyH_take (i := 2) (v := ?_) rfl (by kernel_rfl) (by kernel_rfl) (by kernel_rfl) (fun _ _ _ h => h) (Or.inl ⟨by rfl, ?_⟩) (by assumption) ?_
      rotate_left
      · intro w hSw; (try dsimp only at hSw); go_simp; (try (with_reducible rfl))
      try simp only [List.getElem_toArray, List.getElem_cons_succ, List.getElem_cons_zero, Act.put, List.setIfInBounds_toArray, List.set_cons_zero, List.set_cons_succ]
      refine wpAnyH_take (i := 3) (v := ?_) rfl (by kernel_rfl) (by kernel_rfl) (by kernel_rfl) (fun _ _ _ h => h) (Or.inl ⟨by rfl, ?_⟩) (by assumption) ?_
      rotate_left
      · intro w hSw; (try dsimp only at hSw); go_simp; (try (with_reducible rfl))
      try simp only [List.getElem_toArray, List.getElem_cons_succ, List.getElem_cons_zero, Act.put, List.setIfInBounds_toArray, List.set_cons_zero, List.set_cons_succ]
      refine wpAnyH_take (i := 4) (v := ?_) rfl (by kernel_rfl) (by kernel_rfl) (by kernel_rfl) (fun _ _ _ h => h) (Or.inl ⟨by rfl, ?_⟩) (by assumption) ?_
      rotate_left
      · intro w hSw; (try dsimp only at hSw); go_simp; (try (with_reducible rfl))
      try simp only [List.getElem_toArray, List.getElem_cons_succ, List.getElem_cons_zero, Act.put, List.setIfInBounds_toArray, List.set_cons_zero, List.set_cons_succ]
      refine wpAnyH_take (i := 5) (v := ?_) rfl (by kernel_rfl) (by kernel_rfl) (by kernel_rfl) (fun _ _ _ h => h) (Or.inl ⟨by rfl, ?_⟩) (by assumption) ?_
      rotate_left
      · intro w hSw; (try dsimp only at hSw); go_simp; (try (with_reducible rfl))
      try simp only [List.getElem_toArray, List.getElem_cons_succ, List.getElem_cons_zero, Act.put, List.setIfInBounds_toArray, List.set_cons_zero, List.set_cons_succ]
      refine wpAnyH_take (i := 6) (v := ?_) rfl (by kernel_rfl) (by kernel_rfl) (by kernel_rfl) (fun _ _ _ h => h) (Or.inl ⟨by rfl, ?_⟩) (by assumption) ?_
      rotate_left
      · intro w hSw; (try dsimp only at hSw); go_simp; (try (with_reducible rfl))
      try simp only [List.getElem_toArray, List.getElem_cons_succ, List.getElem_cons_zero, Act.put, List.setIfInBounds_toArray, List.set_cons_zero, List.set_cons_succ]
      refine wpAnyH_take (i := 7) (v := ?_) rfl (by kernel_rfl) (by kernel_rfl) (by kernel_rfl) (fun _ _ _ h => h) (Or.inl ⟨by rfl, ?_⟩) (by assumption) ?_
      rotate_left
      · intro w hSw; (try dsimp only at hSw); go_simp; (try (with_reducible rfl))
      try simp only [List.getElem_toArray, List.getElem_cons_succ, List.getElem_cons_zero, Act.put, List.setIfInBounds_toArray, List.set_cons_zero, List.set_cons_succ]
      refine wpAnyH_ready (rs := [8]) (by kernel_rfl) (by simp) ?_
      refine AllReadyH.cons rfl (fun K hK => ?_) AllReadyH.nil
      go_simp
      have hHeldOld := hHeld; go_at_call 82; refine (HC.out _ hHeldOld.2.2.2.2).mono ?_; rintro e w' ⟨rfl, hbc⟩
      go_wp2_with fail
      refine hK.out _ _ ?_ (fun hHeld => ?_)
      · clear hK K; first | (with_reducible assumption) | exact HSB.out _ _ hHeldOld hbc | exact HS0.out
      clear hK K
      try simp only [List.getElem_toArray, List.getElem_cons_succ, List.getElem_cons_zero, Act.put, List.setIfInBounds_toArray, List.set_cons_zero, List.set_cons_succ]
      refine wpAnyH_take (i := 9) (v := ?_) rfl (by kernel_rfl) (by kernel_rfl) (by kernel_rfl) (fun _ _ _ h => h) (Or.inl ⟨by rfl, ?_⟩) (by assumption) ?_
      rotate_left
      · intro w hSw; (try dsimp only at hSw); go_simp; (try (with_reducible rfl))
      try simp only [List.getElem_toArray, List.getElem_cons_succ, List.getElem_cons_zero, Act.put, List.setIfInBounds_toArray, List.set_cons_zero, List.set_cons_succ]
      refine wpAnyH_take (i := 10) (v := ?_) rfl (by kernel_rfl) (by kernel_rfl) (by kernel_rfl) (fun _ _ _ h => h) (Or.inl ⟨by rfl, ?_⟩) (by assumption) ?_
      rotate_left
      · intro w hSw; (try dsimp only at hSw); go_simp; (try (with_reducible rfl))
      try simp only [List.getElem_toArray, List.getElem_cons_succ, List.getElem_cons_zero, Act.put, List.setIfInBounds_toArray, List.set_cons_zero, List.set_cons_succ]
      refine wpAnyH_take (i := 11) (v := ?_) rfl (by kernel_rfl) (by kernel_rfl) (by kernel_rfl) (fun _ _ _ h => h) (Or.inl ⟨by rfl, ?_⟩) (by assumption) ?_
      rotate_left
      · intro w hSw; (try dsimp only at hSw); go_simp; (try (with_reducible rfl))
      try simp only [List.getElem_toArray, List.getElem_cons_succ, List.getElem_cons_zero, Act.put, List.setIfInBounds_toArray, List.set_cons_zero, List.set_cons_succ]
      refine wpAnyH_take (i := 12) (v := ?_) rfl (by kernel_rfl) (by kernel_rfl) (by kernel_rfl) (fun _ _ _ h => h) (Or.inl ⟨by rfl, ?_⟩) (by assumption) ?_
      rotate_left
      · intro w hSw; (try dsimp only at hSw); go_simp; (try (with_reducible rfl))
      try simp only [List.getElem_toArray, List.getElem_cons_succ, List.getElem_cons_zero, Act.put, List.setIfInBounds_toArray, List.set_cons_zero, List.set_cons_succ]
      refine wpAnyH_take (i := 13) (v := ?_) rfl (by kernel_rfl) (by kernel_rfl) (by kernel_rfl) (fun _ _ _ h => h) (Or.inl ⟨by rfl, ?_⟩) (by assumption) ?_
      rotate_left
      · intro w hSw; (try dsimp only at hSw); go_simp; (try (with_reducible rfl))
      try simp only [List.getElem_toArray, List.getElem_cons_succ, List.getElem_cons_zero, Act.put, List.setIfInBounds_toArray, List.set_cons_zero, List.set_cons_succ]
      refine wpAnyH_done (by kernel_rfl) ?_ _
      have HBW := Lib.hid hHeld.2.2.2.2
      have HO : Hid (w'.ownsRow (w.heap.size + 1) 3 1 (.slice (some ⟨g, 0, none⟩) (k + 1) cap) (k + 1) ((pathL b m X first (k + 1)).map (Value.int .i64))) := ownBelow HI.out.1 HBW.out
      have HBX : Hid (Bk w' w.heap.size 104 #[sv, .int .i64 b, .int .i64 m]) := HI.out.2.1.later HBW.out
      have HBL : Hid (Below w.heap.size w w') := HI.out.2.2.trans (HBW.out.mono HI.out.2.2.size)
      clear hHeld HC HS0 HSB hz2 hz3 hz4 hz5 hck
      have hszw : w.heap.size + 1 ≤ w'.heap.size := HBX.out.lt
      go_wp2_with (at_builtin; refine wpList_append_own _ rfl (.tmp 33) (.tmp 35) 22 rfl (w.heap.size + 1) 3 i0 _ 1 8 Tryz.underlying22 hi0 hz0 hz1 hz2 rfl (by decide) _ _ _ rfl (HO.out.alloc _) ⟨w'.heap.size, 0, none⟩ 1 1 [.int .i64 y] rfl rfl (cell_one_new _ _ _) (by simp [Value.oneCell']) (by unfold maxLen; omega) (by omega) (by simp; omega) ?_)
      intro v' w1 hown' hgrow _
      have hlt' := (HO.out.lt _ rfl)
      have HF : Hid (w1.ownsRow (w.heap.size + 1) 3 1 v' (k + 1 + 1) ((pathL b m X first (k + 1 + 1)).map (Value.int .i64)) ∧ Bk w1 w.heap.size 104 #[sv, .int .i64 b, .int .i64 m] ∧ Below w.heap.size w w1) := by
        refine ⟨by rw [HSU.out, List.map_append]; exact hown', (HBX.out.alloc _).grown hgrow (by intro e; have h1 : w.heap.size + 1 ≤ g := hlt'.1; have e2 : w.heap.size = g := Option.some.inj e; omega), (HBL.out.alloc HBL.out.size _).grown hgrow (by have := HBL.out.size; simp; omega) (fun z e => by have h1 := (HO.out.lt z e).1; omega)⟩
      clear hown' hgrow hlt'
      go_wp2
      go_roundw
      case rel => exact ⟨k + 1, by omega, by go_num, HF.out⟩
      case measure => simp [intOf]; omega
    · obtain rfl : k = n - 1 := by omega
      have e1 : n - 1 + 1 = n := by omega
      have HE1 := Lib.hid e1
      clear e1
      go_wp2
      go_ret
      exact ⟨⟨_, rfl, by have h1 := ownMono HI.out.1 (Nat.le_succ w.heap.size); rw [HE1.out] at h1; rw [pathL_length]; exact h1⟩, HI.out.2.2⟩

end Go.Proofs.YtjjflbnopphciaaGreatDoor

namespace Go.Proofs.YtjjflbnopphciaaGreatDoor
open Go.RowKit

theorem lp1_best (first last : Int) (W : World) (p1 p2 : Addr) (h1 : W.cell? p1 = some (.func (.func 51) #[] #[])) (h2 : W.cell? p2 = some (.int .i64 first)) :
    Calls Tryz.prog 80 #[.int .i64 last, .pointer (some p1), .pointer (some p2)] W fun e w' => e = .returned (.bool true) ∧ W = w' := by
  have C : ∀ a b W, Calls Tryz.prog 51 #[.int .i64 a, .int .i64 b] W fun e w' => e = .returned (.bool true) ∧ W = w' := by
    intro a b W
    go_enter Tryz.func51, Tryz.ntmps51
    go_wp2
    go_ret
    exact ⟨rfl, rfl⟩
  have HC := Lib.hid C
  clear C
  go_enter Tryz.func80, Tryz.ntmps80
  go_wp2_with (go_at_call 51; refine (HC.out _ _ _).mono ?_; rintro e w' ⟨rfl, rfl⟩)
  go_ret
  exact ⟨rfl, rfl⟩
theorem lp1_turn (first last pitch : Int) (W : World) (p1 p2 p3 : Addr) (h1 : W.cell? p1 = some (.func (.func 61) #[] #[.pointer (some p3)])) (h2 : W.cell? p2 = some (.int .i64 first)) (h3 : W.cell? p3 = some (.int .i64 pitch))
    (hf : -1000000 ≤ first ∧ first ≤ 1000000) (hp : -1000000 ≤ pitch ∧ pitch ≤ 1000000) :
    Calls Tryz.prog 80 #[.int .i64 last, .pointer (some p1), .pointer (some p2)] W fun e w' => e = .returned (.bool (decide (last = first + pitch))) ∧ W = w' := by
  have hw : IntKind.i64.wrap (first + pitch) = first + pitch := IntWalk.i64_in _ (by omega)
  have C : ∀ a b W, W.cell? p3 = some (.int .i64 pitch) → IntKind.i64.wrap (a + pitch) = a + pitch → Calls Tryz.prog 61 #[.int .i64 a, .int .i64 b, .pointer (some p3)] W fun e w' => e = .returned (.bool (decide (b = a + pitch))) ∧ W = w' := by
    intro a b W h3 hw
    go_enter Tryz.func61, Tryz.ntmps61
    go_wp2
    go_ret
    refine ⟨?_, rfl⟩
    simp
    rw [Bool.eq_iff_iff]
    simp
  have HC := Lib.hid (C first last W h3 hw)
  clear C h3 hw
  go_enter Tryz.func80, Tryz.ntmps80
  go_wp2_with (go_at_call 61; refine HC.out.mono ?_; rintro e w' ⟨rfl, rfl⟩)
  go_ret
  exact ⟨rfl, rfl⟩

/-- The best path whose first column is less than k, and its cost. -/
def bestStep (mf : Nat → Nat → Bool) (b : Int) (cols : Nat) (rows : List (List Int)) (s : List Int × Int) (k : Nat) : List Int × Int :=
  if ((restsL (mf k) b cols rows).getD 0 []).getD k 0 < s.2 then (pathL b cols (restsL (mf k) b cols rows) k rows.length, ((restsL (mf k) b cols rows).getD 0 []).getD k 0) else s
def bestTo (mf : Nat → Nat → Bool) (b : Int) (cols : Nat) (rows : List (List Int)) : Nat → List Int × Int
  | 0 => ([], 50200)
  | k + 1 => bestStep mf b cols rows (bestTo mf b cols rows k) k
def LeastI (w : World) (A : Option Addr) (n c cols : Nat) (b : Int) (MF p : Value) (xs : List Int) (wr : World) : Prop :=
  wr.ownsRow (w.heap.size + 2) 3 1 p xs.length (xs.map (Value.int .i64)) ∧ Bk wr w.heap.size 104 #[.slice A n c, .int .i64 b, .int .i64 cols] ∧ Boxed wr (w.heap.size + 1) 108 MF ∧ Below w.heap.size w wr
theorem boxedLater {W W' : World} {B : Nat} {t : TypeId} {v : Value} (h : Boxed W B t v) (hb : Below W.heap.size W W') : Boxed W' B t v := (hb.block B h.lt).trans h
theorem LeastI.later {w : World} {A : Option Addr} {n c cols : Nat} {b : Int} {MF p : Value} {xs : List Int} {wr w' : World} (h : LeastI w A n c cols b MF p xs wr) (hb : Below wr.heap.size wr w') : LeastI w A n c cols b MF p xs w' :=
  ⟨ownBelow h.1 hb, h.2.1.later hb, boxedLater h.2.2.1 hb, h.2.2.2.trans (hb.mono h.2.2.2.size)⟩
theorem LeastI.swap {w : World} {A : Option Addr} {n c cols : Nat} {b : Int} {MF p p' : Value} {xs ys : List Int} {wr : World} (h : LeastI w A n c cols b MF p xs wr) {base : Nat} (ho : wr.ownsRow base 3 1 p' ys.length (ys.map (Value.int .i64))) (hb : w.heap.size + 2 ≤ base) : LeastI w A n c cols b MF p' ys wr :=
  ⟨ownMono ho hb, h.2⟩

set_option maxRecDepth 100000 in
set_option maxHeartbeats 4000000 in
theorem leastPath_any (A : Option Addr) (n c cols : Nat) (rows : List (List Int)) (b : Int) (gg : Nat) (cp : Array Value) (mf : Nat → Nat → Bool) (w : World) (hr : RdG w A n rows) (hn : 0 < n ∧ n ≤ 40) (hcols : 0 < cols ∧ cols ≤ 12)
    (hrow : ∀ r ∈ rows, r.length = cols ∧ ∀ x ∈ r, 0 ≤ x ∧ x ≤ 255) (hb : 0 ≤ b ∧ b ≤ 1000)
    (hlp : ∀ (first last : Nat) (W : World) (p1 p2 : Addr), first < cols → last < cols → Below w.heap.size w W → W.cell? p1 = some (.func (.func gg) #[] cp) → W.cell? p2 = some (.int .i64 first) →
      Calls Tryz.prog 80 #[.int .i64 last, .pointer (some p1), .pointer (some p2)] W fun e w' => e = .returned (.bool (mf first last)) ∧ W = w') :
    Calls Tryz.prog 50 #[.agg #[.slice A n c, .int .i64 b, .int .i64 cols], (.func (.func gg) #[] cp)] w (OwnRes w (bestTo mf b cols rows cols).2 (bestTo mf b cols rows cols).1) := by
  have HG := Lib.hid hr
  have HR := Lib.hid hrow
  have HLP := Lib.hid hlp
  have HLen : Hid (rows.length = n) := hr.1
  clear hr hrow hlp
  go_enter Tryz.func50, Tryz.ntmps50
  go_wp2
  go_loopw [6, 7, 13] (fun p ls i wr => ∃ k : Nat, k ≤ cols ∧ i = .int .i64 k ∧ ls = .int .i64 (bestTo mf b cols rows k).2 ∧ Hid (LeastI w A n c cols b (.func (.func gg) #[] cp) p (bestTo mf b cols rows k).1 wr)) (fun _ _ i _ => cols - (intOf i).toNat)
  case atStart =>
    refine ⟨0, Nat.zero_le _, rfl, rfl, World.ownsRow_nil _ _ _ _, (Bk.new w _ _).alloc _, ?_, ((Below.refl _ w).alloc (Nat.le_refl _) _).alloc (by simp) _⟩
    have := Boxed.new (w.alloc (.cells #[.slice A n c, .int .i64 b, .int .i64 cols] 104)) 108 (.func (.func gg) #[] cp)
    simpa using this
  case round =>
    obtain ⟨k, hk, rfl, rfl, HI⟩ := hrel
    obtain ⟨⟨xs, ls⟩, hbt⟩ : ∃ s, bestTo mf b cols rows k = s := ⟨_, rfl⟩
    rw [hbt] at HI
    dsimp only at HI
    have hstep : bestTo mf b cols rows (k + 1) = bestStep mf b cols rows (xs, ls) k := by rw [← hbt]; rfl
    simp only [hbt]
    have HBT := Lib.hid hbt
    clear hbt
    by_cases hlt : k < cols
    · have hkI : (k : Int) < (cols : Int) := by omega
      have d0 : (wr.alloc (.cells #[.int .i64 k] 3)).cell? ⟨w.heap.size, 0, none⟩ = some (.slice A n c) := cellA _ (by rw [HI.out.2.1.cell]; rfl)
      have d1 : (wr.alloc (.cells #[.int .i64 k] 3)).cell? ⟨w.heap.size, 1, none⟩ = some (.int .i64 b) := cellA _ (by rw [HI.out.2.1.cell]; rfl)
      have d2 : (wr.alloc (.cells #[.int .i64 k] 3)).cell? ⟨w.heap.size, 2, none⟩ = some (.int .i64 cols) := cellA _ (by rw [HI.out.2.1.cell]; rfl)
      have hM0 : (wr.alloc (.cells #[.int .i64 k] 3)).cell? ⟨w.heap.size + 1, 0, none⟩ = some (.func (.func gg) #[] cp) := cellA _ HI.out.2.2.1.cell
      have hK0 : (wr.alloc (.cells #[.int .i64 k] 3)).cell? ⟨wr.heap.size, 0, none⟩ = some (.int .i64 k) := by simp [go_sem]
      have HI1 := Lib.hid (HI.out.later (w' := wr.alloc (.cells #[.int .i64 k] 3)) ((Below.refl _ wr).alloc (Nat.le_refl _) _))
      have HSTEP := Lib.hid hstep
      clear hstep
      have HCR : Hid (Calls Tryz.prog 79 #[.agg #[.slice A n c, .int .i64 b, .int .i64 cols], .func (.func 80) #[] #[.pointer (some ⟨w.heap.size + 1, 0, none⟩), .pointer (some ⟨wr.heap.size, 0, none⟩)]] (wr.alloc (.cells #[.int .i64 k] 3)) (RestRes (wr.alloc (.cells #[.int .i64 k] 3)) n (restsL (mf k) b cols rows))) :=
        restsTo_any A n c cols rows b _ _ (mf k) _ (HG.out.below HI1.out.2.2.2) hn hcols HR.out hb (fun last W hl hbW =>
          HLP.out k last W _ _ hlt hl (HI1.out.2.2.2.trans (hbW.mono HI1.out.2.2.2.size)) ((hbW.cell (p := ⟨w.heap.size + 1, 0, none⟩) (World.block_lt_of_cell? _ _ hM0)).trans hM0) ((hbW.cell (p := ⟨wr.heap.size, 0, none⟩) (World.block_lt_of_cell? _ _ hK0)).trans hK0))
      have HK0 := Lib.hid hK0
      clear hM0 hK0
      go_wp2_with fail
      refine HCR.out.mono ?_
      rintro e w2 ⟨⟨A', rfl, hrd⟩, hb2⟩
      have HI2 := Lib.hid (HI1.out.later hb2)
      have hbx := (hb2.cell (p := ⟨wr.heap.size, 0, none⟩) (World.block_lt_of_cell? _ _ HK0.out)).trans HK0.out
      obtain ⟨ad2, rfl, _, hca⟩ := hrd.2 (by omega)
      obtain ⟨B2, m, c2, hk2, hrd0, _⟩ := hca 0 (by omega)
      clear hca
      rw [addZ] at hk2
      obtain rfl : m = cols := by rw [← hrd0.1]; exact restsL_rowlen (mf k) b _ rows (fun r h => (HR.out r h).1) 0 (by rw [HLen.out]; omega)
      obtain ⟨ad3, rfl, _, hcb⟩ := hrd0.2 (by omega)
      have hkc := hcb k hlt
      clear hcb
      obtain ⟨cost, hcost⟩ : ∃ x, ((restsL (mf k) b m rows).getD 0 []).getD k 0 = x := ⟨_, rfl⟩
      rw [hcost] at hkc
      have HST2 : Hid (bestTo mf b m rows (k + 1) = if cost < ls then (pathL b m (restsL (mf k) b m rows) k n, cost) else (xs, ls)) := by
        show _ = _
        rw [HSTEP.out]; unfold bestStep; rw [hcost, HLen.out]
      have HRD := Lib.hid hrd
      have HB2 := Lib.hid hb2
      clear hrd hrd0 hb2 hcost d0 d1 d2 HI1 HSTEP HCR HI HK0
      go_wp2_with fail
      refine wp_region_held_drew (S := (fun w' : World => w'.cell? ad2 = some (.slice (some ad3) m c2) ∧ w'.cell? ⟨wr.heap.size, 0, none⟩ = some (.int .i64 k) ∧ w'.cell? (ad3.add k) = some (.int .i64 cost))) (by kernel_rfl) ?_ ?_
      · exact ⟨hk2, hbx, hkc⟩
      intro hHeld
      refine wpAnyH_take (i := 0) (v := ?_) rfl (by kernel_rfl) (by kernel_rfl) (by kernel_rfl) (fun _ _ _ h => h) (Or.inl ⟨by rfl, ?_⟩) (by assumption) ?_
      rotate_left
      · intro w hSw; (try dsimp only at hSw); go_simp; (try (with_reducible rfl))
      try simp only [List.getElem_toArray, List.getElem_cons_succ, List.getElem_cons_zero, Act.put, List.setIfInBounds_toArray, List.set_cons_zero, List.set_cons_succ]
      refine wpAnyH_take (i := 1) (v := ?_) rfl (by kernel_rfl) (by kernel_rfl) (by kernel_rfl) (fun _ _ _ h => h) (Or.inl ⟨by rfl, ?_⟩) (by assumption) ?_
      rotate_left
      · intro w hSw; (try dsimp only at hSw); go_simp; (try (with_reducible rfl))
      try simp only [List.getElem_toArray, List.getElem_cons_succ, List.getElem_cons_zero, Act.put, List.setIfInBounds_toArray, List.set_cons_zero, List.set_cons_succ]
      refine wpAnyH_take (i := 2) (v := ?_) rfl (by kernel_rfl) (by kernel_rfl) (by kernel_rfl) (fun _ _ _ h => h) (Or.inl ⟨by rfl, ?_⟩) (by assumption) ?_
      rotate_left
      · intro w hSw; (try dsimp only at hSw); go_simp; (try (with_reducible rfl))
      try simp only [List.getElem_toArray, List.getElem_cons_succ, List.getElem_cons_zero, Act.put, List.setIfInBounds_toArray, List.set_cons_zero, List.set_cons_succ]
      refine wpAnyH_take (i := 3) (v := ?_) rfl (by kernel_rfl) (by kernel_rfl) (by kernel_rfl) (fun _ _ _ h => h) (Or.inl ⟨by rfl, ?_⟩) (by assumption) ?_
      rotate_left
      · intro w hSw; (try dsimp only at hSw); go_simp; (try (with_reducible rfl))
      try simp only [List.getElem_toArray, List.getElem_cons_succ, List.getElem_cons_zero, Act.put, List.setIfInBounds_toArray, List.set_cons_zero, List.set_cons_succ]
      refine wpAnyH_take (i := 4) (v := ?_) rfl (by kernel_rfl) (by kernel_rfl) (by kernel_rfl) (fun _ _ _ h => h) (Or.inl ⟨by rfl, ?_⟩) (by assumption) ?_
      rotate_left
      · intro w hSw; (try dsimp only at hSw); go_simp; (try (with_reducible rfl))
      try simp only [List.getElem_toArray, List.getElem_cons_succ, List.getElem_cons_zero, Act.put, List.setIfInBounds_toArray, List.set_cons_zero, List.set_cons_succ]
      refine wpAnyH_take (i := 5) (v := ?_) rfl (by kernel_rfl) (by kernel_rfl) (by kernel_rfl) (fun _ _ _ h => h) (Or.inl ⟨by rfl, ?_⟩) (by assumption) ?_
      rotate_left
      · intro w hSw; (try dsimp only at hSw); go_simp; (try (with_reducible rfl))
      try simp only [List.getElem_toArray, List.getElem_cons_succ, List.getElem_cons_zero, Act.put, List.setIfInBounds_toArray, List.set_cons_zero, List.set_cons_succ]
      refine wpAnyH_take (i := 6) (v := ?_) rfl (by kernel_rfl) (by kernel_rfl) (by kernel_rfl) (fun _ _ _ h => h) (Or.inl ⟨by rfl, ?_⟩) (by assumption) ?_
      rotate_left
      · intro w hSw; (try dsimp only at hSw); go_simp; (try (with_reducible rfl))
      try simp only [List.getElem_toArray, List.getElem_cons_succ, List.getElem_cons_zero, Act.put, List.setIfInBounds_toArray, List.set_cons_zero, List.set_cons_succ]
      refine wpAnyH_done (by kernel_rfl) ?_ _
      clear hHeld hk2 hkc
      by_cases hc : cost < ls
      · have d0 : w2.cell? ⟨w.heap.size, 0, none⟩ = some (.slice A n c) := by rw [HI2.out.2.1.cell]; rfl
        have d1 : w2.cell? ⟨w.heap.size, 1, none⟩ = some (.int .i64 b) := by rw [HI2.out.2.1.cell]; rfl
        have d2 : w2.cell? ⟨w.heap.size, 2, none⟩ = some (.int .i64 m) := by rw [HI2.out.2.1.cell]; rfl
        have HP : Hid (Calls Tryz.prog 81 #[.agg #[.slice A n c, .int .i64 b, .int .i64 m], .slice (some ad2) n n, .int .i64 k] w2.drew (OwnS w2.drew (pathL b m (restsL (mf k) b m rows) k n))) :=
          pathAlong_any _ (some ad2) n m k _ b w2.drew HRD.out hn hcols hlt hb (fun j hj => ⟨restsL_rowlen (mf k) b m rows (fun r h => (HR.out r h).1) j (by rw [HLen.out]; exact hj), fun x hx => by
            have hmem : (restsL (mf k) b m rows).getD j [] ∈ restsL (mf k) b m rows := by
              rw [List.getD_eq_getElem?_getD, List.getElem?_eq_getElem (by rw [restsL_length, HLen.out]; exact hj)]
              exact List.getElem_mem _
            have := restsL_bd (mf k) b m hb rows HR.out (by rw [HLen.out]; omega) _ hmem x hx
            have := HLen.out
            omega⟩)
        have HE : Hid (bestTo mf b m rows (k + 1) = (pathL b m (restsL (mf k) b m rows) k n, cost)) := by show _ = _; rw [HST2.out, if_pos hc]
        clear HST2
        have hz := HI2.out.2.2.1.lt
        go_wp2_with fail
        refine HP.out.mono ?_
        rintro e w3 ⟨⟨v, rfl, hown⟩, hb3⟩
        have HF : Hid (LeastI w A n c m b (.func (.func gg) #[] cp) v (pathL b m (restsL (mf k) b m rows) k n) w3) := ((HI2.out.later ((Below.refl _ w2).drew)).later hb3).swap hown (by show w.heap.size + 2 ≤ w2.heap.size; omega)
        clear d0 d1 d2 hown hb3 HP hbx
        go_wp2
        go_roundw
        case rel => exact ⟨k + 1, by omega, by go_num, by rw [HE.out], by rw [HE.out]; exact HF.out⟩
        case measure => simp [intOf]; omega
      · have HE : Hid (bestTo mf b m rows (k + 1) = (xs, ls)) := by show _ = _; rw [HST2.out, if_neg hc]
        clear HST2 hbx
        go_wp2
        go_roundw
        case rel => exact ⟨k + 1, by omega, by go_num, by rw [HE.out], by rw [HE.out]; exact HI2.out.later ((Below.refl _ w2).drew)⟩
        case measure => simp [intOf]; omega
    · obtain rfl : k = cols := by omega
      have d2 : wr.cell? ⟨w.heap.size, 2, none⟩ = some (.int .i64 k) := by rw [HI.out.2.1.cell]; rfl
      clear hstep
      go_wp2
      go_ret2
      rw [HBT.out]
      exact ⟨⟨_, rfl, ownMono HI.out.1 (by omega)⟩, HI.out.2.2.2⟩

end Go.Proofs.YtjjflbnopphciaaGreatDoor

