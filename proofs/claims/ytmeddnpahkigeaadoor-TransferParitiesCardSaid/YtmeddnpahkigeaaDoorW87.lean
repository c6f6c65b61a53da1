import Derived.Test.YtmeddnpahkigeaaDoorW86
namespace Go.Proofs.YtmeddnpahkigeaaDoor
open Go.RowKit
open Go.Shelf

theorem dataE_cases (ds : List (List Int)) : dataE ds = 0 ∨ dataE ds = 2 := by
  unfold dataE
  induction ds with
  | nil => exact .inl rfl
  | cons x t ih =>
    simp only [List.map_cons, firstE]
    rcases rangesE_cases x (-32767) 32767 with e | e <;> simp [e, ih]
theorem dataE_bnd {ds : List (List Int)} (h : dataE ds = 0) : BndD ds := by
  intro i k
  unfold dc
  induction ds generalizing i with
  | nil => simp
  | cons x t ih =>
    unfold dataE at h
    simp only [List.map_cons, firstE] at h
    have hx : rangesE x (-32767) 32767 = 0 := by
      by_cases e : rangesE x (-32767) 32767 = 0
      · exact e
      · rw [if_neg e] at h; exact absurd h e
    rw [if_pos hx] at h
    cases i with
    | zero => simpa using bnd_of_rangesE x hx k
    | succ i => simpa using ih h i
theorem datE_first (n : Nat) (ds : List (List Int)) (count : Int) :
    firstE [whenE ((n : Int) == 0) 10, whenE (decide ((12 : Int) < (n : Int))) 8, dataE ds, rangeE count 1 4] = datE n ds count := by
  unfold datE
  by_cases h0 : n = 0
  · subst h0; simp [whenE, firstE]
  have h0' : ((n : Int) == 0) = false := by simp; omega
  rw [h0', if_neg h0]
  by_cases h1 : 12 < n
  · have h1' : decide ((12 : Int) < (n : Int)) = true := by simp; omega
    rw [h1', if_pos h1]; simp [whenE, firstE]
  have h1' : decide ((12 : Int) < (n : Int)) = false := by simp; omega
  rw [h1', if_neg h1]
  rcases dataE_cases ds with e | e
  · rw [e]
    by_cases h2 : inB count 1 4 = true
    · simp [whenE, firstE, rangeE, h2]
    · have h2' : inB count 1 4 = false := by simpa using h2
      simp [whenE, firstE, rangeE, h2']
  · rw [e]; simp [whenE, firstE]
theorem datE_parts {n : Nat} {ds : List (List Int)} {count : Int} (h : datE n ds count = 0) : 1 ≤ n ∧ n ≤ 12 ∧ BndD ds ∧ 1 ≤ count ∧ count ≤ 4 := by
  unfold datE at h
  split at h
  · cases h
  split at h
  · cases h
  split at h
  · rename_i h2; exact absurd h h2
  rename_i h0 h1 h2
  split at h
  · rename_i h3
    have h3' : 1 ≤ count ∧ count ≤ 4 := by simp [inB] at h3; omega
    exact ⟨by omega, by omega, dataE_bnd (by simpa using h2), h3'.1, h3'.2⟩
  · cases h

set_option maxRecDepth 100000 in
theorem parityOf_err (A : Option Addr) (n c : Nat) (ds : List (List Int)) (count : Int) (w : World) (hr : RdD w A n ds) (hn : n ≤ 1000000) (hE : datE n ds count ≠ 0) :
    Calls Tryd.prog 14 #[.slice A n c, .int .i64 count] w fun e w' => e = .returned (.tuple #[.slice none 0 0, .int .i64 (datE n ds count)]) ∧ Below w.heap.size w w' := by
  have HR := Lib.hid hr
  have HF := Lib.hid (datE_first n ds count)
  have CD : Hid (∀ W : World, RdD W A n ds → Calls Tryd.prog 53 #[.slice A n c, .func (Fn.func 54) #[] #[]] W fun e w' => e = .returned (.int .i64 (dataE ds)) ∧ Below W.heap.size W w') := fun W h => checkEach8_any A n c ds W h hn
  obtain ⟨E, hEE⟩ : ∃ E, datE n ds count = E := ⟨_, rfl⟩
  obtain ⟨r, hrr⟩ : ∃ r, dataE ds = r := ⟨_, rfl⟩
  rw [hEE] at HF hE ⊢
  rw [hrr] at HF CD
  clear hEE hrr hr
  go_enter Tryd.func14, Tryd.ntmps14
  go_wp2_with (first
    | (go_at_call 41; refine (when_any _ _ _).mono ?_; rintro e w' ⟨rfl, rfl⟩)
    | (go_at_call 53; refine (CD.out _ HR.out).mono ?_; rintro e w' ⟨rfl, hb⟩)
    | (go_at_call 55; refine (checkRange_any _ _ _ _).mono ?_; rintro e w' ⟨rfl, rfl⟩)
    | (go_at_call 40; refine (first4 _ _ _ _ _).mono ?_; rw [HF.out]; rintro e w' ⟨rfl, rfl⟩))
  have HB := Lib.hid hb
  clear hb
  all_goals go_ret2
  all_goals exact ⟨rfl, HB.out.alloc HB.out.size _⟩

/-- The row of parities while it is filled. -/
def mixC (ps : List (List Int)) (r : Nat) : Array Value := (dCells ps ++ List.replicate (r * 8) (Value.int .i64 0)).toArray
theorem made8 (n : Nat) : madeCells (Value.agg zero8).cells (n * 8) = mixC [] n := by
  have hz : ∀ k, k < 8 → zero8[k]! = Value.int .i64 0 := by
    intro k hk
    match k, hk with
    | 0, _ => rfl
    | 1, _ => rfl
    | 2, _ => rfl
    | 3, _ => rfl
    | 4, _ => rfl
    | 5, _ => rfl
    | 6, _ => rfl
    | 7, _ => rfl
  unfold madeCells mixC
  apply Array.ext
  · simp [dCells]
  · intro i h1 h2
    have := hz (i % 8) (Nat.mod_lt _ (by omega))
    have e : (Value.agg zero8).cells = zero8 := rfl
    have s : zero8.size = 8 := rfl
    simp only [Array.getElem_map, Array.getElem_range, e, s, this, dCells, List.flatMap_nil, List.nil_append, List.getElem_toArray, List.getElem_replicate]
theorem set_app {α : Type} (A B : List α) (i : Nat) (v : α) : (A ++ B).set (A.length + i) v = A ++ B.set i v := by
  rw [List.set_append_right _ _ (by omega), Nat.add_sub_cancel_left]
theorem mixC_set (ps : List (List Int)) (r : Nat) (h8 : Ok8 ps) (x0 x1 x2 x3 x4 x5 x6 x7 : Int) (o : Nat) (ho : ps.length * 8 = o) :
    (((((((((mixC ps (r + 1)).setIfInBounds (o) (.int .i64 x0)).setIfInBounds (o + 1) (.int .i64 x1)).setIfInBounds (o + 2) (.int .i64 x2)).setIfInBounds (o + 3) (.int .i64 x3)).setIfInBounds (o + 4) (.int .i64 x4)).setIfInBounds (o + 5) (.int .i64 x5)).setIfInBounds (o + 6) (.int .i64 x6)).setIfInBounds (o + 7) (.int .i64 x7)) = mixC (ps ++ [[x0, x1, x2, x3, x4, x5, x6, x7]]) r := by
  have hl : (dCells ps).length = o := by rw [dCells_len ps h8, ho]
  unfold mixC
  rw [show (r + 1) * 8 = 8 + r * 8 by omega, ← List.replicate_append_replicate, dCells_snoc]
  generalize List.replicate (r * 8) (Value.int IntKind.i64 0) = Z
  simp only [List.setIfInBounds_toArray]
  congr 1
  have e : ∀ (q : Nat) (v : Value) (B : List Value), (dCells ps ++ B).set (o + q) v = dCells ps ++ B.set q v := fun q v B => by rw [← hl]; exact set_app _ _ _ _
  have e0 : ∀ (v : Value) (B : List Value), (dCells ps ++ B).set o v = dCells ps ++ B.set 0 v := fun v B => e 0 v B
  rw [e0, e, e, e, e, e, e, e, List.append_assoc]
  rfl

end Go.Proofs.YtmeddnpahkigeaaDoor
