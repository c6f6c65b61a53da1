import Derived.Test.YtjjflbnopphciaaGreatDoorH5
namespace Go.Proofs.YtjjflbnopphciaaGreatDoor
open Go.RowKit

/-- The error of a grid of values. -/
def gridE (R C : Nat) : List (List Int) → Int
  | [] => 10
  | r :: rs => if r.length = 0 then 10 else if R < rs.length + 1 ∨ C < r.length then 8 else rowsE r.length 0 255 (r :: rs)
theorem addZ (a : Addr) : a.add 0 = a := by unfold Addr.add; simp
theorem gridE_zero {R C : Nat} {rows : List (List Int)} (h : rows.length = 0) : gridE R C rows = 10 := by
  cases rows with
  | nil => rfl
  | cons _ _ => simp at h
theorem gridE_row {R C : Nat} {rows : List (List Int)} {n m : Nat} (h : rows.length = n) (hn : 0 < n) (hm : (rows.getD 0 []).length = m) :
    gridE R C rows = if m = 0 then 10 else if R < n ∨ C < m then 8 else rowsE m 0 255 rows := by
  cases rows with
  | nil => simp at h; omega
  | cons r rs => simp at h hm; subst h hm; rfl

set_option maxRecDepth 100000 in
set_option maxHeartbeats 1000000 in
theorem checkGrid_any (A : Option Addr) (n c R C : Nat) (rows : List (List Int)) (w : World) (hr : RdG w A n rows) (hn : n ≤ 9223372036854775806) :
    Calls Tryz.prog 75 #[.slice A n c, .int .i64 R, .int .i64 C] w fun e w' => e = .returned (.int .i64 (gridE R C rows)) ∧ w = w' := by
  have C0 := Lib.hid (checkRows_any A n c rows)
  by_cases h0 : n = 0
  · subst h0
    have he := Lib.hid (gridE_zero (R := R) (C := C) hr.1)
    clear hr C0
    go_enter Tryz.func75, Tryz.ntmps75
    go_wp2
    go_ret
    exact ⟨by rw [he.out]; rfl, rfl⟩
  · obtain ⟨ad, rfl, _, hc⟩ := hr.2 (by omega)
    obtain ⟨B, m, c', hck, hrow, hm⟩ := hc 0 (by omega)
    clear hc
    have HE := Lib.hid (gridE_row (R := R) (C := C) hr.1 (by omega) hrow.1)
    have C1 := Lib.hid (C0.out m 0 255 w hr hn)
    rw [addZ] at hck
    clear hr hrow C0
    have hn1 : ((n : Int) == 0) = false := by simp; omega
    by_cases hm0 : m = 0
    · subst hm0
      have he : Hid (gridE R C rows = 10) := by show _ = _; rw [HE.out]; rfl
      go_enter Tryz.func75, Tryz.ntmps75
      go_wp2
      go_ret
      exact ⟨by rw [he.out]; rfl, rfl⟩
    · have hm1 : ((m : Int) == 0) = false := by simp; omega
      have hmp : (0 : Int) < (m : Int) := by omega
      have hnp : (0 : Int) < (n : Int) := by omega
      by_cases hR : R < n
      · have he : Hid (gridE R C rows = 8) := by show _ = _; rw [HE.out, if_neg hm0, if_pos (.inl hR)]
        have hRI : (R : Int) < (n : Int) := by omega
        go_enter Tryz.func75, Tryz.ntmps75
        go_wp2
        go_ret
        exact ⟨by rw [he.out]; rfl, rfl⟩
      · have hRI : ¬ (R : Int) < (n : Int) := by omega
        by_cases hC : C < m
        · have he : Hid (gridE R C rows = 8) := by show _ = _; rw [HE.out, if_neg hm0, if_pos (.inr hC)]
          have hCI : (C : Int) < (m : Int) := by omega
          go_enter Tryz.func75, Tryz.ntmps75
          go_wp2
          go_ret
          exact ⟨by rw [he.out]; rfl, rfl⟩
        · have he : Hid (gridE R C rows = rowsE m 0 255 rows) := by show _ = _; rw [HE.out, if_neg hm0, if_neg (by omega)]
          have hCI : ¬ (C : Int) < (m : Int) := by omega
          go_enter Tryz.func75, Tryz.ntmps75
          go_wp2_with (go_at_call 93; refine C1.out.mono ?_; rintro e w' ⟨rfl, rfl⟩)
          go_ret
          exact ⟨by rw [he.out]; rfl, rfl⟩

set_option maxRecDepth 100000 in
set_option maxHeartbeats 1000000 in
theorem checkGridS_any (A : Option Addr) (n c R C : Nat) (rows : List (List Int)) (w : World) (hr : RdG w A n rows) (hn : n ≤ 9223372036854775806) :
    Calls Tryz.prog 95 #[.slice A n c, .int .i64 R, .int .i64 C] w fun e w' => e = .returned (.int .i64 (gridE R C rows)) ∧ w = w' := by
  have C0 := Lib.hid (checkRowsS_any A n c rows)
  by_cases h0 : n = 0
  · subst h0
    have he := Lib.hid (gridE_zero (R := R) (C := C) hr.1)
    clear hr C0
    go_enter Tryz.func95, Tryz.ntmps95
    go_wp2
    go_ret
    exact ⟨by rw [he.out]; rfl, rfl⟩
  · obtain ⟨ad, rfl, _, hc⟩ := hr.2 (by omega)
    obtain ⟨B, m, c', hck, hrow, hm⟩ := hc 0 (by omega)
    clear hc
    have HE := Lib.hid (gridE_row (R := R) (C := C) hr.1 (by omega) hrow.1)
    have C1 := Lib.hid (C0.out m 0 255 w hr hn)
    rw [addZ] at hck
    clear hr hrow C0
    have hn1 : ((n : Int) == 0) = false := by simp; omega
    by_cases hm0 : m = 0
    · subst hm0
      have he : Hid (gridE R C rows = 10) := by show _ = _; rw [HE.out]; rfl
      go_enter Tryz.func95, Tryz.ntmps95
      go_wp2
      go_ret
      exact ⟨by rw [he.out]; rfl, rfl⟩
    · have hm1 : ((m : Int) == 0) = false := by simp; omega
      have hmp : (0 : Int) < (m : Int) := by omega
      have hnp : (0 : Int) < (n : Int) := by omega
      by_cases hR : R < n
      · have he : Hid (gridE R C rows = 8) := by show _ = _; rw [HE.out, if_neg hm0, if_pos (.inl hR)]
        have hRI : (R : Int) < (n : Int) := by omega
        go_enter Tryz.func95, Tryz.ntmps95
        go_wp2
        go_ret
        exact ⟨by rw [he.out]; rfl, rfl⟩
      · have hRI : ¬ (R : Int) < (n : Int) := by omega
        by_cases hC : C < m
        · have he : Hid (gridE R C rows = 8) := by show _ = _; rw [HE.out, if_neg hm0, if_pos (.inr hC)]
          have hCI : (C : Int) < (m : Int) := by omega
          go_enter Tryz.func95, Tryz.ntmps95
          go_wp2
          go_ret
          exact ⟨by rw [he.out]; rfl, rfl⟩
        · have he : Hid (gridE R C rows = rowsE m 0 255 rows) := by show _ = _; rw [HE.out, if_neg hm0, if_neg (by omega)]
          have hCI : ¬ (C : Int) < (m : Int) := by omega
          go_enter Tryz.func95, Tryz.ntmps95
          go_wp2_with (go_at_call 113; refine C1.out.mono ?_; rintro e w' ⟨rfl, rfl⟩)
          go_ret
          exact ⟨by rw [he.out]; rfl, rfl⟩

theorem checkImage_any (A : Option Addr) (n c : Nat) (rows : List (List Int)) (w : World) (hr : RdG w A n rows) (hn : n ≤ 9223372036854775806) :
    Calls Tryz.prog 44 #[.agg #[.slice A n c]] w fun e w' => e = .returned (.int .i64 (gridE 24 24 rows)) ∧ Below w.heap.size w w' := by
  have hb := (Below.refl w.heap.size w).alloc (Nat.le_refl _) (.cells #[.slice A n c] 41)
  have C := Lib.hid (checkGrid_any A n c 24 24 rows _ (hr.below hb) hn)
  clear hr hb
  go_enter Tryz.func44, Tryz.ntmps44
  go_wp2_with (go_at_call 75; refine C.out.mono ?_; rintro e w' ⟨rfl, rfl⟩)
  go_ret
  exact ⟨rfl, (Below.refl _ w).alloc (Nat.le_refl _) _⟩

theorem checkStrip_any (A : Option Addr) (n c : Nat) (rows : List (List Int)) (w : World) (hr : RdG w A n rows) (hn : n ≤ 9223372036854775806) :
    Calls Tryz.prog 78 #[.slice A n c] w fun e w' => e = .returned (.int .i64 (gridE 40 12 rows)) ∧ w = w' := by
  have C := Lib.hid (checkGridS_any A n c 40 12 rows w hr hn)
  clear hr
  go_enter Tryz.func78, Tryz.ntmps78
  go_wp2_with (go_at_call 95; refine C.out.mono ?_; rintro e w' ⟨rfl, rfl⟩)
  go_ret
  exact ⟨rfl, rfl⟩

end Go.Proofs.YtjjflbnopphciaaGreatDoor
