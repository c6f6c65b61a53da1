import Derived.Test.YtpkjkegcdddimaaDoorH7
import Derived.Test.YtpkjkegcdddimaaDoorP1
import Derived.Deep.RegionHeld3
import Derived.Laws.CopyOwn
namespace Go.Proofs.YtpkjkegcdddimaaDoor
open Go.RowKit

/-- Block g is just the cells cs of type t. -/
def Bk (w : World) (g : Nat) (t : TypeId) (cs : Array Value) : Prop := w.heap[g]? = some (.cells cs t (0, 0))
theorem Bk.heap {w : World} {g : Nat} {t : TypeId} {cs : Array Value} (h : Bk w g t cs) : w.heap[g]? = some (.cells cs t (0, 0)) := h
theorem Bk.lt {w : World} {g : Nat} {t : TypeId} {cs : Array Value} (h : Bk w g t cs) : g < w.heap.size := by
  rcases Nat.lt_or_ge g w.heap.size with h1 | h1
  · exact h1
  · unfold Bk at h; rw [Array.getElem?_eq_none h1] at h; cases h
theorem Bk.cell {w : World} {g : Nat} {t : TypeId} {cs : Array Value} (h : Bk w g t cs) (i : Nat) : w.cell? ⟨g, i, none⟩ = cs[i]? := cell_of_row w g i cs t (0, 0) h
theorem Bk.frozen {w : World} {g : Nat} {t : TypeId} {cs : Array Value} (h : Bk w g t cs) (i : Nat) : w.frozen? ⟨g, i, none⟩ = false := frozen_of_row w g i cs t h
theorem Bk.below {w w' : World} {g B : Nat} {t : TypeId} {cs : Array Value} (h : Bk w g t cs) (hb : Below B w w') (hg : g < B) : Bk w' g t cs := (hb.block g hg).trans h
theorem Bk.later {w w' : World} {g : Nat} {t : TypeId} {cs : Array Value} (h : Bk w g t cs) (hb : Below w.heap.size w w') : Bk w' g t cs := h.below hb h.lt
theorem Bk.new (w : World) (t : TypeId) (cs : Array Value) : Bk (w.alloc (.cells cs t)) w.heap.size t cs := heap_alloc_new w _
theorem Bk.alloc {w : World} {g : Nat} {t : TypeId} {cs : Array Value} (h : Bk w g t cs) (o : Obj) : Bk (w.alloc o) g t cs := (Below.heap_alloc w o g h.lt).trans h
theorem Bk.set_ {w : World} {g : Nat} {t : TypeId} {cs : Array Value} (h : Bk w g t cs) (i : Nat) (v : Value) : Bk (w.setCell ⟨g, i, none⟩ v) g t (cs.setIfInBounds i v) := heap_setCell_same w g i cs t v h
theorem Bk.far {w : World} {g : Nat} {t : TypeId} {cs : Array Value} (h : Bk w g t cs) (p : Addr) (hp : g ≠ p.block) (v : Value) : Bk (w.setCell p v) g t cs := (heap_setCell_other w p g v hp).trans h
theorem Bk.drewN {w : World} {g : Nat} {t : TypeId} {cs : Array Value} (h : Bk w g t cs) (n : Nat) : Bk (w.drewN n) g t cs := h
theorem Bk.drew {w : World} {g : Nat} {t : TypeId} {cs : Array Value} (h : Bk w g t cs) : Bk w.drew g t cs := h
theorem Bk.grown {w w' : World} {g : Nat} {t : TypeId} {cs : Array Value} {row : Option Nat} (h : Bk w g t cs) (hg : w.grownBy w' row) (hne : some g ≠ row) : Bk w' g t cs := (hg.block g h.lt hne).trans h

/-- Integers as cells. -/
def iArr (xs : List Int) : Array Value := (xs.map (Value.int .i64)).toArray
theorem iArr_size (xs : List Int) : (iArr xs).size = xs.length := by simp [iArr]
theorem iArr_at (xs : List Int) (i : Nat) (h : i < xs.length) : (iArr xs)[i]? = some (.int .i64 (xs.getD i 0)) := by
  simp [iArr, List.getElem?_toArray, List.getD_eq_getElem?_getD, List.getElem?_eq_getElem h]
theorem iArr_set (xs : List Int) (i : Nat) (v : Int) : (iArr xs).setIfInBounds i (.int .i64 v) = iArr (xs.set i v) := by
  simp [iArr, List.map_set]
theorem addOff (g j : Nat) : (⟨g, 0, none⟩ : Addr).add j = ⟨g, j, none⟩ := by unfold Addr.add; split <;> simp_all
theorem rd_of_bk {w : World} {g n : Nat} {xs : List Int} (h : Bk w g 3 (iArr xs)) (hn : xs.length = n) : RdI w (some ⟨g, 0, none⟩) n xs :=
  ⟨hn, fun _ => ⟨_, rfl, h.lt, fun j hj => by rw [addOff, h.cell]; exact iArr_at _ _ (by omega)⟩⟩
theorem own_of_bk {w : World} {base g : Nat} {xs : List Int} (n : Nat) (h : Bk w g 3 (iArr xs)) (hn : xs.length = n) (hb : base ≤ g) (hm : n ≤ 10000000) : w.ownsRow base 3 1 (.slice (some ⟨g, 0, none⟩) n n) n (xs.map (Value.int .i64)) := by
  refine ⟨by simp [hn], .inr ⟨g, n, iArr xs, rfl, hb, h, Nat.le_refl _, by simp only [maxLen]; omega, by rw [iArr_size]; omega, ?_⟩⟩
  rw [List.take_of_length_le (by simp [iArr]; omega)]
  simp [iArr]
theorem rd_of_own {w : World} {base : Nat} {v : Value} {n : Nat} {xs : List Int} (h : w.ownsRow base 3 1 v n (xs.map (Value.int .i64))) :
    ∃ A c, v = .slice A n c ∧ n ≤ c ∧ RdI w A n xs := by
  have hl : xs.length = n := by have := h.1; simpa using this
  rcases h.2 with ⟨rfl, rfl⟩ | ⟨g, cap, cur, rfl, _, hh, hnc, _, _, htk⟩
  · exact ⟨none, 0, rfl, Nat.le_refl _, hl, fun h0 => absurd h0 (by omega)⟩
  · refine ⟨_, cap, rfl, hnc, hl, fun _ => ⟨_, rfl, ?_, fun j hj => ?_⟩⟩
    · have : Bk w g 3 cur := hh
      exact this.lt
    · rw [addOff, cell_of_row w g j cur 3 (0, 0) hh, ← Array.getElem?_toList]
      have e1 : (cur.toList.take (n * 1))[j]? = (xs.map (Value.int .i64))[j]? := by rw [htk]
      rw [List.getElem?_take, if_pos (by omega)] at e1
      rw [e1]
      simp [List.getElem?_eq_getElem (show j < xs.length by omega)]

theorem sliceInfo : (Tryd.prog.info? 28).map (fun i => (i.zero, i.size, i.bytes)) = some (some (.slice none 0 0), 1, 24) := by kernel_rfl
theorem intInfo' : (Tryd.prog.info? 3).map (fun i => (i.zero, i.size, i.bytes)) = some (some (.int .i64 0), 1, 8) := by kernel_rfl

theorem make_ints (c : Nat) (hc : c ≤ 1000000) (W : World) :
    (Instr.makeSlice 28 (.int .i64 (c : Int)) (.int .i64 (c : Int))).run Tryd.prog W = .ok (.slice (some ⟨W.heap.size, 0, none⟩) c c) (W.alloc (.cells (iArr (List.replicate c 0)) 3)) := by
  obtain ⟨i0, hi, hz0, hz1, hz2⟩ := info_parts intInfo'
  have hr := run_make (P := Tryd.prog) W 28 3 i0 _ Tryd.underlying28 hi hz0 .i64 .i64 c c (by omega) (by omega) (by rw [hz2]; omega) (by omega)
  rw [hr]
  have e : madeCells (Value.cells (.int .i64 0)) ((c : Int).toNat * i0.size) = iArr (List.replicate c 0) := by
    rw [hz1]
    apply Array.ext'
    have := toList_madeCells_one (Value.int .i64 0) c
    simp only [Int.toNat_natCast, Nat.mul_one]
    show (madeCells #[Value.int .i64 0] c).toList = _
    rw [this]
    simp [iArr]
  rw [e]
  simp
theorem make_rows (c : Nat) (hc : c ≤ 1000000) (W : World) :
    (Instr.makeSlice 22 (.int .i64 (c : Int)) (.int .i64 (c : Int))).run Tryd.prog W = .ok (.slice (some ⟨W.heap.size, 0, none⟩) c c) (W.alloc (.cells (List.replicate c (Value.slice none 0 0)).toArray 28)) := by
  obtain ⟨i0, hi, hz0, hz1, hz2⟩ := info_parts sliceInfo
  have hr := run_make (P := Tryd.prog) W 22 28 i0 _ Tryd.underlying22 hi hz0 .i64 .i64 c c (by omega) (by omega) (by rw [hz2]; omega) (by omega)
  rw [hr]
  have e : madeCells (Value.cells (.slice none 0 0)) ((c : Int).toNat * i0.size) = (List.replicate c (Value.slice none 0 0)).toArray := by
    rw [hz1]
    apply Array.ext'
    have := toList_madeCells_one (Value.slice none 0 0) c
    simp only [Int.toNat_natCast, Nat.mul_one]
    show (madeCells #[Value.slice none 0 0] c).toList = _
    rw [this]
  rw [e]
  simp

theorem ownMono {w : World} {base base' : Nat} {e : TypeId} {size : Nat} {v : Value} {n : Nat} {xs : List Value} (h : w.ownsRow base e size v n xs) (hb : base' ≤ base) : w.ownsRow base' e size v n xs := by
  refine ⟨h.1, ?_⟩
  rcases h.2 with h0 | ⟨g, cap, cur, h1, h2, h3⟩
  · exact .inl h0
  · exact .inr ⟨g, cap, cur, h1, Nat.le_trans hb h2, h3⟩

/-- A slice of integers of the call's own, and an error. -/
def OwnRes (w : World) (E : Int) (xs : List Int) (e : Ending) (w' : World) : Prop :=
  (∃ v, e = .returned (.tuple #[v, .int .i64 E]) ∧ w'.ownsRow w.heap.size 3 1 v xs.length (xs.map (Value.int .i64))) ∧ Below w.heap.size w w'
theorem OwnRes.none_ {w w' : World} {E : Int} (h : Below w.heap.size w w') : OwnRes w E [] (.returned (.tuple #[.slice none 0 0, .int .i64 E])) w' := ⟨⟨_, rfl, World.ownsRow_nil _ _ _ _⟩, h⟩
/-- A slice of integers of the call's own. -/
def OwnS (w : World) (xs : List Int) (e : Ending) (w' : World) : Prop :=
  (∃ v, e = .returned v ∧ w'.ownsRow w.heap.size 3 1 v xs.length (xs.map (Value.int .i64))) ∧ Below w.heap.size w w'

end Go.Proofs.YtpkjkegcdddimaaDoor
