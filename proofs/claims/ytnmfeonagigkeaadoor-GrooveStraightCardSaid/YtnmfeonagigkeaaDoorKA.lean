import Derived.Test.YtnmfeonagigkeaaDoorK0
import Derived.Test.YtnmfeonagigkeaaDoorA2
namespace Go.Proofs.YtnmfeonagigkeaaDoor
open Go.RowKit

set_option maxRecDepth 100000 in
set_option maxHeartbeats 8000000 in
theorem straight_out0 (s d m z : Int) (B : Option Addr) (k cB : Nat) (gs : List (Int × Int)) (w : World) (hl : LaidSides w) (hB : B = none → k = 0 ∧ cB = 0) (hg : RdP w B k gs) (hs : ¬ (-10000 ≤ s ∧ s ≤ 10000)) :
    Calls Tryd.prog 6 #[.agg #[.int .i64 s, .int .i64 d, .int .i64 m], .slice B k cB, .int .i64 z] w fun e w' => e = .returned (.bool true) ∧ Below w.heap.size w w' := by
  have hb0 : Below w.heap.size w (w.alloc (.cells #[.int .i64 s, .int .i64 d, .int .i64 m] 73)) := (Below.refl _ _).alloc (Nat.le_refl _) _
  have HL := Lib.hid (hl.later hb0)
  have HB := Lib.hid hB
  have HG := Lib.hid (hg.below hb0)
  have HGL : Hid (gs.length = k) := hg.1
  have HC0 : Hid ((fun w' : World => w'.cell? ⟨w.heap.size, 0, none⟩ = some (.int .i64 s) ∧ w'.cell? ⟨w.heap.size, 1, none⟩ = some (.int .i64 d) ∧ w'.cell? ⟨w.heap.size, 2, none⟩ = some (.int .i64 m)) (w.alloc (.cells #[.int .i64 s, .int .i64 d, .int .i64 m] 73))) := ⟨by simp [go_sem], by simp [go_sem], by simp [go_sem]⟩
  have low0 := Lib.hid hb0
  clear hl hB hg hb0
  have CWs : Hid (∀ W, Calls Tryd.prog 19 #[.int .i64 s, .int .i64 (-10000), .int .i64 (10000)] W fun e w' => e = .returned (.bool false) ∧ W = w') := fun W => by
    have h := within_any s (-10000) (10000) W
    rw [show fromB (-10000) (10000) [s] = false by rw [Bool.eq_false_iff]; intro e; exact hs (fromB_one.1 e)] at h
    exact h
  go_enter Tryd.func6, Tryd.ntmps6
  go_wp2_with fail
  refine (awake_any _ HL.out).mono ?_
  rintro e w1 ⟨rfl, hb1⟩
  have Fg1 := Lib.hid (HG.out.below hb1)
  have low1 := Lib.hid (low0.out.trans (hb1.mono low0.out.size))
  obtain ⟨b, hbe⟩ : ∃ b, w.heap.size = b := ⟨_, rfl⟩
  have HS2 : Hid ((fun w' : World => w'.cell? ⟨b, 0, none⟩ = some (.int .i64 s) ∧ w'.cell? ⟨b, 1, none⟩ = some (.int .i64 d) ∧ w'.cell? ⟨b, 2, none⟩ = some (.int .i64 m)) w1.drew) := by rw [← hbe]; exact ⟨(hb1.cell (p := ⟨_, 0, none⟩) (by simp)).trans HC0.out.1, (hb1.cell (p := ⟨_, 1, none⟩) (by simp)).trans HC0.out.2.1, (hb1.cell (p := ⟨_, 2, none⟩) (by simp)).trans HC0.out.2.2⟩
  clear hb1 HG low0 HL HC0
  go_wp2_with fail
  try rw [hbe]
  refine wp_region_held_drew (S := (fun w' : World => w'.cell? ⟨b, 0, none⟩ = some (.int .i64 s) ∧ w'.cell? ⟨b, 1, none⟩ = some (.int .i64 d) ∧ w'.cell? ⟨b, 2, none⟩ = some (.int .i64 m))) (by kernel_rfl) ?_ ?_
  · exact HS2.out
  intro hHeld
  refine wpAnyH_take (i := 0) (v := ?_) rfl (by kernel_rfl) (by kernel_rfl) (by kernel_rfl) (fun _ _ _ h => h) (Or.inl ⟨by rfl, ?_⟩) (by assumption) ?_
  rotate_left
  · intro w hSw; (try dsimp only at hSw); go_simp; (try (with_reducible rfl))
  try simp only [List.getElem_toArray, List.getElem_cons_succ, List.getElem_cons_zero, Act.put, List.setIfInBounds_toArray, List.set_cons_zero, List.set_cons_succ]
  refine wpAnyH_take (i := 1) (v := ?_) rfl (by kernel_rfl) (by kernel_rfl) (by kernel_rfl) (fun _ _ _ h => h) (Or.inl ⟨by rfl, ?_⟩) (by assumption) ?_
  rotate_left
  · intro w hSw; (try dsimp only at hSw); go_simp; (try (with_reducible rfl))
  try simp only [List.getElem_toArray, List.getElem_cons_succ, List.getElem_cons_zero, Act.put, List.setIfInBounds_toArray, List.set_cons_zero, List.set_cons_succ]
  refine wpAnyH_take (i := 2) (v := ?_) rfl (by kernel_rfl) (by kernel_rfl) (by kernel_rfl) (fun _ _ _ h => h) (Or.inl ⟨by rfl, ?_⟩) (by assumption) ?_
  rotate_left
  · intro w hSw; (try dsimp only at hSw); go_simp; (try (with_reducible rfl))
  try simp only [List.getElem_toArray, List.getElem_cons_succ, List.getElem_cons_zero, Act.put, List.setIfInBounds_toArray, List.set_cons_zero, List.set_cons_succ]
  refine wpAnyH_take (i := 3) (v := ?_) rfl (by kernel_rfl) (by kernel_rfl) (by kernel_rfl) (fun _ _ _ h => h) (Or.inl ⟨by rfl, ?_⟩) (by assumption) ?_
  rotate_left
  · intro w hSw; (try dsimp only at hSw); go_simp; (try (with_reducible rfl))
  try simp only [List.getElem_toArray, List.getElem_cons_succ, List.getElem_cons_zero, Act.put, List.setIfInBounds_toArray, List.set_cons_zero, List.set_cons_succ]
  refine wpAnyH_take (i := 4) (v := ?_) rfl (by kernel_rfl) (by kernel_rfl) (by kernel_rfl) (fun _ _ _ h => h) (Or.inl ⟨by rfl, ?_⟩) (by assumption) ?_
  rotate_left
  · intro w hSw; (try dsimp only at hSw); go_simp; (try (with_reducible rfl))
  try simp only [List.getElem_toArray, List.getElem_cons_succ, List.getElem_cons_zero, Act.put, List.setIfInBounds_toArray, List.set_cons_zero, List.set_cons_succ]
  refine wpAnyH_take (i := 5) (v := ?_) rfl (by kernel_rfl) (by kernel_rfl) (by kernel_rfl) (fun _ _ _ h => h) (Or.inl ⟨by rfl, ?_⟩) (by assumption) ?_
  rotate_left
  · intro w hSw; (try dsimp only at hSw); go_simp; (try (with_reducible rfl))
  try simp only [List.getElem_toArray, List.getElem_cons_succ, List.getElem_cons_zero, Act.put, List.setIfInBounds_toArray, List.set_cons_zero, List.set_cons_succ]
  refine wpAnyH_take (i := 6) (v := ?_) rfl (by kernel_rfl) (by kernel_rfl) (by kernel_rfl) (fun _ _ _ h => h) (Or.inl ⟨by rfl, ?_⟩) (by assumption) ?_
  rotate_left
  · intro w hSw; (try dsimp only at hSw); go_simp; (try (with_reducible rfl))
  try simp only [List.getElem_toArray, List.getElem_cons_succ, List.getElem_cons_zero, Act.put, List.setIfInBounds_toArray, List.set_cons_zero, List.set_cons_succ]
  refine wpAnyH_take (i := 7) (v := ?_) rfl (by kernel_rfl) (by kernel_rfl) (by kernel_rfl) (fun _ _ _ h => h) (Or.inl ⟨by rfl, ?_⟩) (by assumption) ?_
  rotate_left
  · intro w hSw; (try dsimp only at hSw); go_simp; (try (with_reducible rfl))
  try simp only [List.getElem_toArray, List.getElem_cons_succ, List.getElem_cons_zero, Act.put, List.setIfInBounds_toArray, List.set_cons_zero, List.set_cons_succ]
  refine wpAnyH_take (i := 8) (v := ?_) rfl (by kernel_rfl) (by kernel_rfl) (by kernel_rfl) (fun _ _ _ h => h) (Or.inl ⟨by rfl, ?_⟩) (by assumption) ?_
  rotate_left
  · intro w hSw; (try dsimp only at hSw); go_simp; (try (with_reducible rfl))
  try simp only [List.getElem_toArray, List.getElem_cons_succ, List.getElem_cons_zero, Act.put, List.setIfInBounds_toArray, List.set_cons_zero, List.set_cons_succ]
  refine wpAnyH_done (by kernel_rfl) ?_ _
  clear hHeld HS2 hbe
  have hb2 : Below w1.heap.size w1 w1.drew := (Below.refl _ _).drew
  obtain ⟨w2, hw2⟩ : ∃ W, w1.drew = W := ⟨_, rfl⟩
  rw [hw2] at hb2 ⊢
  have Fg2 := Lib.hid (Fg1.out.below hb2)
  have low2 := Lib.hid (low1.out.trans (hb2.mono low1.out.size))
  clear hb2 hw2 Fg1 low1
  go_wp2_with fail
  refine (CWs.out _).mono ?_
  rintro e w' ⟨rfl, rfl⟩
  go_wp2
  go_ret
  exact ⟨rfl, low2.out⟩

set_option maxRecDepth 100000 in
set_option maxHeartbeats 8000000 in
theorem straight_out1 (s d m z : Int) (B : Option Addr) (k cB : Nat) (gs : List (Int × Int)) (w : World) (hl : LaidSides w) (hB : B = none → k = 0 ∧ cB = 0) (hg : RdP w B k gs) (hs : -10000 ≤ s ∧ s ≤ 10000) (hd : ¬ (-1000 ≤ d ∧ d ≤ 1000)) :
    Calls Tryd.prog 6 #[.agg #[.int .i64 s, .int .i64 d, .int .i64 m], .slice B k cB, .int .i64 z] w fun e w' => e = .returned (.bool true) ∧ Below w.heap.size w w' := by
  have hb0 : Below w.heap.size w (w.alloc (.cells #[.int .i64 s, .int .i64 d, .int .i64 m] 73)) := (Below.refl _ _).alloc (Nat.le_refl _) _
  have HL := Lib.hid (hl.later hb0)
  have HB := Lib.hid hB
  have HG := Lib.hid (hg.below hb0)
  have HGL : Hid (gs.length = k) := hg.1
  have HC0 : Hid ((fun w' : World => w'.cell? ⟨w.heap.size, 0, none⟩ = some (.int .i64 s) ∧ w'.cell? ⟨w.heap.size, 1, none⟩ = some (.int .i64 d) ∧ w'.cell? ⟨w.heap.size, 2, none⟩ = some (.int .i64 m)) (w.alloc (.cells #[.int .i64 s, .int .i64 d, .int .i64 m] 73))) := ⟨by simp [go_sem], by simp [go_sem], by simp [go_sem]⟩
  have low0 := Lib.hid hb0
  clear hl hB hg hb0
  have CWs : Hid (∀ W, Calls Tryd.prog 19 #[.int .i64 s, .int .i64 (-10000), .int .i64 (10000)] W fun e w' => e = .returned (.bool true) ∧ W = w') := fun W => by
    have h := within_any s (-10000) (10000) W
    rw [show fromB (-10000) (10000) [s] = true by rw [fromB_one]; exact hs] at h
    exact h
  have CWd : Hid (∀ W, Calls Tryd.prog 19 #[.int .i64 d, .int .i64 (-1000), .int .i64 (1000)] W fun e w' => e = .returned (.bool false) ∧ W = w') := fun W => by
    have h := within_any d (-1000) (1000) W
    rw [show fromB (-1000) (1000) [d] = false by rw [Bool.eq_false_iff]; intro e; exact hd (fromB_one.1 e)] at h
    exact h
  go_enter Tryd.func6, Tryd.ntmps6
  go_wp2_with fail
  refine (awake_any _ HL.out).mono ?_
  rintro e w1 ⟨rfl, hb1⟩
  have Fg1 := Lib.hid (HG.out.below hb1)
  have low1 := Lib.hid (low0.out.trans (hb1.mono low0.out.size))
  obtain ⟨b, hbe⟩ : ∃ b, w.heap.size = b := ⟨_, rfl⟩
  have HS2 : Hid ((fun w' : World => w'.cell? ⟨b, 0, none⟩ = some (.int .i64 s) ∧ w'.cell? ⟨b, 1, none⟩ = some (.int .i64 d) ∧ w'.cell? ⟨b, 2, none⟩ = some (.int .i64 m)) w1.drew) := by rw [← hbe]; exact ⟨(hb1.cell (p := ⟨_, 0, none⟩) (by simp)).trans HC0.out.1, (hb1.cell (p := ⟨_, 1, none⟩) (by simp)).trans HC0.out.2.1, (hb1.cell (p := ⟨_, 2, none⟩) (by simp)).trans HC0.out.2.2⟩
  clear hb1 HG low0 HL HC0
  go_wp2_with fail
  try rw [hbe]
  refine wp_region_held_drew (S := (fun w' : World => w'.cell? ⟨b, 0, none⟩ = some (.int .i64 s) ∧ w'.cell? ⟨b, 1, none⟩ = some (.int .i64 d) ∧ w'.cell? ⟨b, 2, none⟩ = some (.int .i64 m))) (by kernel_rfl) ?_ ?_
  · exact HS2.out
  intro hHeld
  refine wpAnyH_take (i := 0) (v := ?_) rfl (by kernel_rfl) (by kernel_rfl) (by kernel_rfl) (fun _ _ _ h => h) (Or.inl ⟨by rfl, ?_⟩) (by assumption) ?_
  rotate_left
  · intro w hSw; (try dsimp only at hSw); go_simp; (try (with_reducible rfl))
  try simp only [List.getElem_toArray, List.getElem_cons_succ, List.getElem_cons_zero, Act.put, List.setIfInBounds_toArray, List.set_cons_zero, List.set_cons_succ]
  refine wpAnyH_take (i := 1) (v := ?_) rfl (by kernel_rfl) (by kernel_rfl) (by kernel_rfl) (fun _ _ _ h => h) (Or.inl ⟨by rfl, ?_⟩) (by assumption) ?_
  rotate_left
  · intro w hSw; (try dsimp only at hSw); go_simp; (try (with_reducible rfl))
  try simp only [List.getElem_toArray, List.getElem_cons_succ, List.getElem_cons_zero, Act.put, List.setIfInBounds_toArray, List.set_cons_zero, List.set_cons_succ]
  refine wpAnyH_take (i := 2) (v := ?_) rfl (by kernel_rfl) (by kernel_rfl) (by kernel_rfl) (fun _ _ _ h => h) (Or.inl ⟨by rfl, ?_⟩) (by assumption) ?_
  rotate_left
  · intro w hSw; (try dsimp only at hSw); go_simp; (try (with_reducible rfl))
  try simp only [List.getElem_toArray, List.getElem_cons_succ, List.getElem_cons_zero, Act.put, List.setIfInBounds_toArray, List.set_cons_zero, List.set_cons_succ]
  refine wpAnyH_take (i := 3) (v := ?_) rfl (by kernel_rfl) (by kernel_rfl) (by kernel_rfl) (fun _ _ _ h => h) (Or.inl ⟨by rfl, ?_⟩) (by assumption) ?_
  rotate_left
  · intro w hSw; (try dsimp only at hSw); go_simp; (try (with_reducible rfl))
  try simp only [List.getElem_toArray, List.getElem_cons_succ, List.getElem_cons_zero, Act.put, List.setIfInBounds_toArray, List.set_cons_zero, List.set_cons_succ]
  refine wpAnyH_take (i := 4) (v := ?_) rfl (by kernel_rfl) (by kernel_rfl) (by kernel_rfl) (fun _ _ _ h => h) (Or.inl ⟨by rfl, ?_⟩) (by assumption) ?_
  rotate_left
  · intro w hSw; (try dsimp only at hSw); go_simp; (try (with_reducible rfl))
  try simp only [List.getElem_toArray, List.getElem_cons_succ, List.getElem_cons_zero, Act.put, List.setIfInBounds_toArray, List.set_cons_zero, List.set_cons_succ]
  refine wpAnyH_take (i := 5) (v := ?_) rfl (by kernel_rfl) (by kernel_rfl) (by kernel_rfl) (fun _ _ _ h => h) (Or.inl ⟨by rfl, ?_⟩) (by assumption) ?_
  rotate_left
  · intro w hSw; (try dsimp only at hSw); go_simp; (try (with_reducible rfl))
  try simp only [List.getElem_toArray, List.getElem_cons_succ, List.getElem_cons_zero, Act.put, List.setIfInBounds_toArray, List.set_cons_zero, List.set_cons_succ]
  refine wpAnyH_take (i := 6) (v := ?_) rfl (by kernel_rfl) (by kernel_rfl) (by kernel_rfl) (fun _ _ _ h => h) (Or.inl ⟨by rfl, ?_⟩) (by assumption) ?_
  rotate_left
  · intro w hSw; (try dsimp only at hSw); go_simp; (try (with_reducible rfl))
  try simp only [List.getElem_toArray, List.getElem_cons_succ, List.getElem_cons_zero, Act.put, List.setIfInBounds_toArray, List.set_cons_zero, List.set_cons_succ]
  refine wpAnyH_take (i := 7) (v := ?_) rfl (by kernel_rfl) (by kernel_rfl) (by kernel_rfl) (fun _ _ _ h => h) (Or.inl ⟨by rfl, ?_⟩) (by assumption) ?_
  rotate_left
  · intro w hSw; (try dsimp only at hSw); go_simp; (try (with_reducible rfl))
  try simp only [List.getElem_toArray, List.getElem_cons_succ, List.getElem_cons_zero, Act.put, List.setIfInBounds_toArray, List.set_cons_zero, List.set_cons_succ]
  refine wpAnyH_take (i := 8) (v := ?_) rfl (by kernel_rfl) (by kernel_rfl) (by kernel_rfl) (fun _ _ _ h => h) (Or.inl ⟨by rfl, ?_⟩) (by assumption) ?_
  rotate_left
  · intro w hSw; (try dsimp only at hSw); go_simp; (try (with_reducible rfl))
  try simp only [List.getElem_toArray, List.getElem_cons_succ, List.getElem_cons_zero, Act.put, List.setIfInBounds_toArray, List.set_cons_zero, List.set_cons_succ]
  refine wpAnyH_done (by kernel_rfl) ?_ _
  clear hHeld HS2 hbe
  have hb2 : Below w1.heap.size w1 w1.drew := (Below.refl _ _).drew
  obtain ⟨w2, hw2⟩ : ∃ W, w1.drew = W := ⟨_, rfl⟩
  rw [hw2] at hb2 ⊢
  have Fg2 := Lib.hid (Fg1.out.below hb2)
  have low2 := Lib.hid (low1.out.trans (hb2.mono low1.out.size))
  clear hb2 hw2 Fg1 low1
  go_wp2_with fail
  refine (CWs.out _).mono ?_
  rintro e w' ⟨rfl, rfl⟩
  go_wp2_with fail
  refine (CWd.out _).mono ?_
  rintro e w' ⟨rfl, rfl⟩
  go_wp2
  go_ret
  exact ⟨rfl, low2.out⟩

set_option maxRecDepth 100000 in
set_option maxHeartbeats 8000000 in
theorem straight_out2 (s d m z : Int) (B : Option Addr) (k cB : Nat) (gs : List (Int × Int)) (w : World) (hl : LaidSides w) (hB : B = none → k = 0 ∧ cB = 0) (hg : RdP w B k gs) (hs : -10000 ≤ s ∧ s ≤ 10000) (hd : -1000 ≤ d ∧ d ≤ 1000) (hm : ¬ (2 ≤ m ∧ m ≤ 60)) :
    Calls Tryd.prog 6 #[.agg #[.int .i64 s, .int .i64 d, .int .i64 m], .slice B k cB, .int .i64 z] w fun e w' => e = .returned (.bool true) ∧ Below w.heap.size w w' := by
  have hb0 : Below w.heap.size w (w.alloc (.cells #[.int .i64 s, .int .i64 d, .int .i64 m] 73)) := (Below.refl _ _).alloc (Nat.le_refl _) _
  have HL := Lib.hid (hl.later hb0)
  have HB := Lib.hid hB
  have HG := Lib.hid (hg.below hb0)
  have HGL : Hid (gs.length = k) := hg.1
  have HC0 : Hid ((fun w' : World => w'.cell? ⟨w.heap.size, 0, none⟩ = some (.int .i64 s) ∧ w'.cell? ⟨w.heap.size, 1, none⟩ = some (.int .i64 d) ∧ w'.cell? ⟨w.heap.size, 2, none⟩ = some (.int .i64 m)) (w.alloc (.cells #[.int .i64 s, .int .i64 d, .int .i64 m] 73))) := ⟨by simp [go_sem], by simp [go_sem], by simp [go_sem]⟩
  have low0 := Lib.hid hb0
  clear hl hB hg hb0
  have CWs : Hid (∀ W, Calls Tryd.prog 19 #[.int .i64 s, .int .i64 (-10000), .int .i64 (10000)] W fun e w' => e = .returned (.bool true) ∧ W = w') := fun W => by
    have h := within_any s (-10000) (10000) W
    rw [show fromB (-10000) (10000) [s] = true by rw [fromB_one]; exact hs] at h
    exact h
  have CWd : Hid (∀ W, Calls Tryd.prog 19 #[.int .i64 d, .int .i64 (-1000), .int .i64 (1000)] W fun e w' => e = .returned (.bool true) ∧ W = w') := fun W => by
    have h := within_any d (-1000) (1000) W
    rw [show fromB (-1000) (1000) [d] = true by rw [fromB_one]; exact hd] at h
    exact h
  have CWm : Hid (∀ W, Calls Tryd.prog 19 #[.int .i64 m, .int .i64 (2), .int .i64 (60)] W fun e w' => e = .returned (.bool false) ∧ W = w') := fun W => by
    have h := within_any m (2) (60) W
    rw [show fromB (2) (60) [m] = false by rw [Bool.eq_false_iff]; intro e; exact hm (fromB_one.1 e)] at h
    exact h
  go_enter Tryd.func6, Tryd.ntmps6
  go_wp2_with fail
  refine (awake_any _ HL.out).mono ?_
  rintro e w1 ⟨rfl, hb1⟩
  have Fg1 := Lib.hid (HG.out.below hb1)
  have low1 := Lib.hid (low0.out.trans (hb1.mono low0.out.size))
  obtain ⟨b, hbe⟩ : ∃ b, w.heap.size = b := ⟨_, rfl⟩
  have HS2 : Hid ((fun w' : World => w'.cell? ⟨b, 0, none⟩ = some (.int .i64 s) ∧ w'.cell? ⟨b, 1, none⟩ = some (.int .i64 d) ∧ w'.cell? ⟨b, 2, none⟩ = some (.int .i64 m)) w1.drew) := by rw [← hbe]; exact ⟨(hb1.cell (p := ⟨_, 0, none⟩) (by simp)).trans HC0.out.1, (hb1.cell (p := ⟨_, 1, none⟩) (by simp)).trans HC0.out.2.1, (hb1.cell (p := ⟨_, 2, none⟩) (by simp)).trans HC0.out.2.2⟩
  clear hb1 HG low0 HL HC0
  go_wp2_with fail
  try rw [hbe]
  refine wp_region_held_drew (S := (fun w' : World => w'.cell? ⟨b, 0, none⟩ = some (.int .i64 s) ∧ w'.cell? ⟨b, 1, none⟩ = some (.int .i64 d) ∧ w'.cell? ⟨b, 2, none⟩ = some (.int .i64 m))) (by kernel_rfl) ?_ ?_
  · exact HS2.out
  intro hHeld
  refine wpAnyH_take (i := 0) (v := ?_) rfl (by kernel_rfl) (by kernel_rfl) (by kernel_rfl) (fun _ _ _ h => h) (Or.inl ⟨by rfl, ?_⟩) (by assumption) ?_
  rotate_left
  · intro w hSw; (try dsimp only at hSw); go_simp; (try (with_reducible rfl))
  try simp only [List.getElem_toArray, List.getElem_cons_succ, List.getElem_cons_zero, Act.put, List.setIfInBounds_toArray, List.set_cons_zero, List.set_cons_succ]
  refine wpAnyH_take (i := 1) (v := ?_) rfl (by kernel_rfl) (by kernel_rfl) (by kernel_rfl) (fun _ _ _ h => h) (Or.inl ⟨by rfl, ?_⟩) (by assumption) ?_
  rotate_left
  · intro w hSw; (try dsimp only at hSw); go_simp; (try (with_reducible rfl))
  try simp only [List.getElem_toArray, List.getElem_cons_succ, List.getElem_cons_zero, Act.put, List.setIfInBounds_toArray, List.set_cons_zero, List.set_cons_succ]
  refine wpAnyH_take (i := 2) (v := ?_) rfl (by kernel_rfl) (by kernel_rfl) (by kernel_rfl) (fun _ _ _ h => h) (Or.inl ⟨by rfl, ?_⟩) (by assumption) ?_
  rotate_left
  · intro w hSw; (try dsimp only at hSw); go_simp; (try (with_reducible rfl))
  try simp only [List.getElem_toArray, List.getElem_cons_succ, List.getElem_cons_zero, Act.put, List.setIfInBounds_toArray, List.set_cons_zero, List.set_cons_succ]
  refine wpAnyH_take (i := 3) (v := ?_) rfl (by kernel_rfl) (by kernel_rfl) (by kernel_rfl) (fun _ _ _ h => h) (Or.inl ⟨by rfl, ?_⟩) (by assumption) ?_
  rotate_left
  · intro w hSw; (try dsimp only at hSw); go_simp; (try (with_reducible rfl))
  try simp only [List.getElem_toArray, List.getElem_cons_succ, List.getElem_cons_zero, Act.put, List.setIfInBounds_toArray, List.set_cons_zero, List.set_cons_succ]
  refine wpAnyH_take (i := 4) (v := ?_) rfl (by kernel_rfl) (by kernel_rfl) (by kernel_rfl) (fun _ _ _ h => h) (Or.inl ⟨by rfl, ?_⟩) (by assumption) ?_
  rotate_left
  · intro w hSw; (try dsimp only at hSw); go_simp; (try (with_reducible rfl))
  try simp only [List.getElem_toArray, List.getElem_cons_succ, List.getElem_cons_zero, Act.put, List.setIfInBounds_toArray, List.set_cons_zero, List.set_cons_succ]
  refine wpAnyH_take (i := 5) (v := ?_) rfl (by kernel_rfl) (by kernel_rfl) (by kernel_rfl) (fun _ _ _ h => h) (Or.inl ⟨by rfl, ?_⟩) (by assumption) ?_
  rotate_left
  · intro w hSw; (try dsimp only at hSw); go_simp; (try (with_reducible rfl))
  try simp only [List.getElem_toArray, List.getElem_cons_succ, List.getElem_cons_zero, Act.put, List.setIfInBounds_toArray, List.set_cons_zero, List.set_cons_succ]
  refine wpAnyH_take (i := 6) (v := ?_) rfl (by kernel_rfl) (by kernel_rfl) (by kernel_rfl) (fun _ _ _ h => h) (Or.inl ⟨by rfl, ?_⟩) (by assumption) ?_
  rotate_left
  · intro w hSw; (try dsimp only at hSw); go_simp; (try (with_reducible rfl))
  try simp only [List.getElem_toArray, List.getElem_cons_succ, List.getElem_cons_zero, Act.put, List.setIfInBounds_toArray, List.set_cons_zero, List.set_cons_succ]
  refine wpAnyH_take (i := 7) (v := ?_) rfl (by kernel_rfl) (by kernel_rfl) (by kernel_rfl) (fun _ _ _ h => h) (Or.inl ⟨by rfl, ?_⟩) (by assumption) ?_
  rotate_left
  · intro w hSw; (try dsimp only at hSw); go_simp; (try (with_reducible rfl))
  try simp only [List.getElem_toArray, List.getElem_cons_succ, List.getElem_cons_zero, Act.put, List.setIfInBounds_toArray, List.set_cons_zero, List.set_cons_succ]
  refine wpAnyH_take (i := 8) (v := ?_) rfl (by kernel_rfl) (by kernel_rfl) (by kernel_rfl) (fun _ _ _ h => h) (Or.inl ⟨by rfl, ?_⟩) (by assumption) ?_
  rotate_left
  · intro w hSw; (try dsimp only at hSw); go_simp; (try (with_reducible rfl))
  try simp only [List.getElem_toArray, List.getElem_cons_succ, List.getElem_cons_zero, Act.put, List.setIfInBounds_toArray, List.set_cons_zero, List.set_cons_succ]
  refine wpAnyH_done (by kernel_rfl) ?_ _
  clear hHeld HS2 hbe
  have hb2 : Below w1.heap.size w1 w1.drew := (Below.refl _ _).drew
  obtain ⟨w2, hw2⟩ : ∃ W, w1.drew = W := ⟨_, rfl⟩
  rw [hw2] at hb2 ⊢
  have Fg2 := Lib.hid (Fg1.out.below hb2)
  have low2 := Lib.hid (low1.out.trans (hb2.mono low1.out.size))
  clear hb2 hw2 Fg1 low1
  go_wp2_with fail
  refine (CWs.out _).mono ?_
  rintro e w' ⟨rfl, rfl⟩
  go_wp2_with fail
  refine (CWd.out _).mono ?_
  rintro e w' ⟨rfl, rfl⟩
  go_wp2_with fail
  refine (CWm.out _).mono ?_
  rintro e w' ⟨rfl, rfl⟩
  go_wp2
  go_ret
  exact ⟨rfl, low2.out⟩

set_option maxRecDepth 100000 in
set_option maxHeartbeats 8000000 in
theorem straight_out3 (s d m z : Int) (B : Option Addr) (k cB : Nat) (gs : List (Int × Int)) (w : World) (hl : LaidSides w) (hB : B = none → k = 0 ∧ cB = 0) (hg : RdP w B k gs) (hs : -10000 ≤ s ∧ s ≤ 10000) (hd : -1000 ≤ d ∧ d ≤ 1000) (hm : 2 ≤ m ∧ m ≤ 60) (hk : ¬ k ≤ 10) :
    Calls Tryd.prog 6 #[.agg #[.int .i64 s, .int .i64 d, .int .i64 m], .slice B k cB, .int .i64 z] w fun e w' => e = .returned (.bool true) ∧ Below w.heap.size w w' := by
  have hb0 : Below w.heap.size w (w.alloc (.cells #[.int .i64 s, .int .i64 d, .int .i64 m] 73)) := (Below.refl _ _).alloc (Nat.le_refl _) _
  have HL := Lib.hid (hl.later hb0)
  have HB := Lib.hid hB
  have HG := Lib.hid (hg.below hb0)
  have HGL : Hid (gs.length = k) := hg.1
  have HC0 : Hid ((fun w' : World => w'.cell? ⟨w.heap.size, 0, none⟩ = some (.int .i64 s) ∧ w'.cell? ⟨w.heap.size, 1, none⟩ = some (.int .i64 d) ∧ w'.cell? ⟨w.heap.size, 2, none⟩ = some (.int .i64 m)) (w.alloc (.cells #[.int .i64 s, .int .i64 d, .int .i64 m] 73))) := ⟨by simp [go_sem], by simp [go_sem], by simp [go_sem]⟩
  have low0 := Lib.hid hb0
  clear hl hB hg hb0
  have CWs : Hid (∀ W, Calls Tryd.prog 19 #[.int .i64 s, .int .i64 (-10000), .int .i64 (10000)] W fun e w' => e = .returned (.bool true) ∧ W = w') := fun W => by
    have h := within_any s (-10000) (10000) W
    rw [show fromB (-10000) (10000) [s] = true by rw [fromB_one]; exact hs] at h
    exact h
  have CWd : Hid (∀ W, Calls Tryd.prog 19 #[.int .i64 d, .int .i64 (-1000), .int .i64 (1000)] W fun e w' => e = .returned (.bool true) ∧ W = w') := fun W => by
    have h := within_any d (-1000) (1000) W
    rw [show fromB (-1000) (1000) [d] = true by rw [fromB_one]; exact hd] at h
    exact h
  have CWm : Hid (∀ W, Calls Tryd.prog 19 #[.int .i64 m, .int .i64 (2), .int .i64 (60)] W fun e w' => e = .returned (.bool true) ∧ W = w') := fun W => by
    have h := within_any m (2) (60) W
    rw [show fromB (2) (60) [m] = true by rw [fromB_one]; exact hm] at h
    exact h
  have hkI : (10 : Int) < (k : Int) := by omega
  go_enter Tryd.func6, Tryd.ntmps6
  go_wp2_with fail
  refine (awake_any _ HL.out).mono ?_
  rintro e w1 ⟨rfl, hb1⟩
  have Fg1 := Lib.hid (HG.out.below hb1)
  have low1 := Lib.hid (low0.out.trans (hb1.mono low0.out.size))
  obtain ⟨b, hbe⟩ : ∃ b, w.heap.size = b := ⟨_, rfl⟩
  have HS2 : Hid ((fun w' : World => w'.cell? ⟨b, 0, none⟩ = some (.int .i64 s) ∧ w'.cell? ⟨b, 1, none⟩ = some (.int .i64 d) ∧ w'.cell? ⟨b, 2, none⟩ = some (.int .i64 m)) w1.drew) := by rw [← hbe]; exact ⟨(hb1.cell (p := ⟨_, 0, none⟩) (by simp)).trans HC0.out.1, (hb1.cell (p := ⟨_, 1, none⟩) (by simp)).trans HC0.out.2.1, (hb1.cell (p := ⟨_, 2, none⟩) (by simp)).trans HC0.out.2.2⟩
  clear hb1 HG low0 HL HC0
  go_wp2_with fail
  try rw [hbe]
  refine wp_region_held_drew (S := (fun w' : World => w'.cell? ⟨b, 0, none⟩ = some (.int .i64 s) ∧ w'.cell? ⟨b, 1, none⟩ = some (.int .i64 d) ∧ w'.cell? ⟨b, 2, none⟩ = some (.int .i64 m))) (by kernel_rfl) ?_ ?_
  · exact HS2.out
  intro hHeld
  refine wpAnyH_take (i := 0) (v := ?_) rfl (by kernel_rfl) (by kernel_rfl) (by kernel_rfl) (fun _ _ _ h => h) (Or.inl ⟨by rfl, ?_⟩) (by assumption) ?_
  rotate_left
  · intro w hSw; (try dsimp only at hSw); go_simp; (try (with_reducible rfl))
  try simp only [List.getElem_toArray, List.getElem_cons_succ, List.getElem_cons_zero, Act.put, List.setIfInBounds_toArray, List.set_cons_zero, List.set_cons_succ]
  refine wpAnyH_take (i := 1) (v := ?_) rfl (by kernel_rfl) (by kernel_rfl) (by kernel_rfl) (fun _ _ _ h => h) (Or.inl ⟨by rfl, ?_⟩) (by assumption) ?_
  rotate_left
  · intro w hSw; (try dsimp only at hSw); go_simp; (try (with_reducible rfl))
  try simp only [List.getElem_toArray, List.getElem_cons_succ, List.getElem_cons_zero, Act.put, List.setIfInBounds_toArray, List.set_cons_zero, List.set_cons_succ]
  refine wpAnyH_take (i := 2) (v := ?_) rfl (by kernel_rfl) (by kernel_rfl) (by kernel_rfl) (fun _ _ _ h => h) (Or.inl ⟨by rfl, ?_⟩) (by assumption) ?_
  rotate_left
  · intro w hSw; (try dsimp only at hSw); go_simp; (try (with_reducible rfl))
  try simp only [List.getElem_toArray, List.getElem_cons_succ, List.getElem_cons_zero, Act.put, List.setIfInBounds_toArray, List.set_cons_zero, List.set_cons_succ]
  refine wpAnyH_take (i := 3) (v := ?_) rfl (by kernel_rfl) (by kernel_rfl) (by kernel_rfl) (fun _ _ _ h => h) (Or.inl ⟨by rfl, ?_⟩) (by assumption) ?_
  rotate_left
  · intro w hSw; (try dsimp only at hSw); go_simp; (try (with_reducible rfl))
  try simp only [List.getElem_toArray, List.getElem_cons_succ, List.getElem_cons_zero, Act.put, List.setIfInBounds_toArray, List.set_cons_zero, List.set_cons_succ]
  refine wpAnyH_take (i := 4) (v := ?_) rfl (by kernel_rfl) (by kernel_rfl) (by kernel_rfl) (fun _ _ _ h => h) (Or.inl ⟨by rfl, ?_⟩) (by assumption) ?_
  rotate_left
  · intro w hSw; (try dsimp only at hSw); go_simp; (try (with_reducible rfl))
  try simp only [List.getElem_toArray, List.getElem_cons_succ, List.getElem_cons_zero, Act.put, List.setIfInBounds_toArray, List.set_cons_zero, List.set_cons_succ]
  refine wpAnyH_take (i := 5) (v := ?_) rfl (by kernel_rfl) (by kernel_rfl) (by kernel_rfl) (fun _ _ _ h => h) (Or.inl ⟨by rfl, ?_⟩) (by assumption) ?_
  rotate_left
  · intro w hSw; (try dsimp only at hSw); go_simp; (try (with_reducible rfl))
  try simp only [List.getElem_toArray, List.getElem_cons_succ, List.getElem_cons_zero, Act.put, List.setIfInBounds_toArray, List.set_cons_zero, List.set_cons_succ]
  refine wpAnyH_take (i := 6) (v := ?_) rfl (by kernel_rfl) (by kernel_rfl) (by kernel_rfl) (fun _ _ _ h => h) (Or.inl ⟨by rfl, ?_⟩) (by assumption) ?_
  rotate_left
  · intro w hSw; (try dsimp only at hSw); go_simp; (try (with_reducible rfl))
  try simp only [List.getElem_toArray, List.getElem_cons_succ, List.getElem_cons_zero, Act.put, List.setIfInBounds_toArray, List.set_cons_zero, List.set_cons_succ]
  refine wpAnyH_take (i := 7) (v := ?_) rfl (by kernel_rfl) (by kernel_rfl) (by kernel_rfl) (fun _ _ _ h => h) (Or.inl ⟨by rfl, ?_⟩) (by assumption) ?_
  rotate_left
  · intro w hSw; (try dsimp only at hSw); go_simp; (try (with_reducible rfl))
  try simp only [List.getElem_toArray, List.getElem_cons_succ, List.getElem_cons_zero, Act.put, List.setIfInBounds_toArray, List.set_cons_zero, List.set_cons_succ]
  refine wpAnyH_take (i := 8) (v := ?_) rfl (by kernel_rfl) (by kernel_rfl) (by kernel_rfl) (fun _ _ _ h => h) (Or.inl ⟨by rfl, ?_⟩) (by assumption) ?_
  rotate_left
  · intro w hSw; (try dsimp only at hSw); go_simp; (try (with_reducible rfl))
  try simp only [List.getElem_toArray, List.getElem_cons_succ, List.getElem_cons_zero, Act.put, List.setIfInBounds_toArray, List.set_cons_zero, List.set_cons_succ]
  refine wpAnyH_done (by kernel_rfl) ?_ _
  clear hHeld HS2 hbe
  have hb2 : Below w1.heap.size w1 w1.drew := (Below.refl _ _).drew
  obtain ⟨w2, hw2⟩ : ∃ W, w1.drew = W := ⟨_, rfl⟩
  rw [hw2] at hb2 ⊢
  have Fg2 := Lib.hid (Fg1.out.below hb2)
  have low2 := Lib.hid (low1.out.trans (hb2.mono low1.out.size))
  clear hb2 hw2 Fg1 low1
  go_wp2_with fail
  refine (CWs.out _).mono ?_
  rintro e w' ⟨rfl, rfl⟩
  go_wp2_with fail
  refine (CWd.out _).mono ?_
  rintro e w' ⟨rfl, rfl⟩
  go_wp2_with fail
  refine (CWm.out _).mono ?_
  rintro e w' ⟨rfl, rfl⟩
  go_wp2
  go_ret
  exact ⟨rfl, low2.out⟩

set_option maxRecDepth 100000 in
set_option maxHeartbeats 8000000 in
theorem straight_out4 (s d m z : Int) (B : Option Addr) (k cB : Nat) (gs : List (Int × Int)) (w : World) (hl : LaidSides w) (hB : B = none → k = 0 ∧ cB = 0) (hg : RdP w B k gs) (hs : -10000 ≤ s ∧ s ≤ 10000) (hd : -1000 ≤ d ∧ d ≤ 1000) (hm : 2 ≤ m ∧ m ≤ 60) (hk : k ≤ 10) (n : Nat) (hmn : m = n) (d2 : Int) (hd2 : gapsE n gs = d2) (hd0 : (d2 != 0) = true) :
    Calls Tryd.prog 6 #[.agg #[.int .i64 s, .int .i64 d, .int .i64 m], .slice B k cB, .int .i64 z] w fun e w' => e = .returned (.bool true) ∧ Below w.heap.size w w' := by
  have hb0 : Below w.heap.size w (w.alloc (.cells #[.int .i64 s, .int .i64 d, .int .i64 m] 73)) := (Below.refl _ _).alloc (Nat.le_refl _) _
  have HL := Lib.hid (hl.later hb0)
  have HB := Lib.hid hB
  have HG := Lib.hid (hg.below hb0)
  have HGL : Hid (gs.length = k) := hg.1
  have HC0 : Hid ((fun w' : World => w'.cell? ⟨w.heap.size, 0, none⟩ = some (.int .i64 s) ∧ w'.cell? ⟨w.heap.size, 1, none⟩ = some (.int .i64 d) ∧ w'.cell? ⟨w.heap.size, 2, none⟩ = some (.int .i64 m)) (w.alloc (.cells #[.int .i64 s, .int .i64 d, .int .i64 m] 73))) := ⟨by simp [go_sem], by simp [go_sem], by simp [go_sem]⟩
  have low0 := Lib.hid hb0
  clear hl hB hg hb0
  have CWs : Hid (∀ W, Calls Tryd.prog 19 #[.int .i64 s, .int .i64 (-10000), .int .i64 (10000)] W fun e w' => e = .returned (.bool true) ∧ W = w') := fun W => by
    have h := within_any s (-10000) (10000) W
    rw [show fromB (-10000) (10000) [s] = true by rw [fromB_one]; exact hs] at h
    exact h
  have CWd : Hid (∀ W, Calls Tryd.prog 19 #[.int .i64 d, .int .i64 (-1000), .int .i64 (1000)] W fun e w' => e = .returned (.bool true) ∧ W = w') := fun W => by
    have h := within_any d (-1000) (1000) W
    rw [show fromB (-1000) (1000) [d] = true by rw [fromB_one]; exact hd] at h
    exact h
  have CWm : Hid (∀ W, Calls Tryd.prog 19 #[.int .i64 m, .int .i64 (2), .int .i64 (60)] W fun e w' => e = .returned (.bool true) ∧ W = w') := fun W => by
    have h := within_any m (2) (60) W
    rw [show fromB (2) (60) [m] = true by rw [fromB_one]; exact hm] at h
    exact h
  have hkI : ¬ (10 : Int) < (k : Int) := by omega
  subst hmn
  have CGE : Hid (∀ W, RdP W B k gs → Calls Tryd.prog 30 #[.int .i64 n, .slice B k cB] W fun e w' => e = .returned (.int .i64 d2) ∧ Below W.heap.size W w') := fun W h => by rw [← hd2]; exact refGapsErr_any n B k cB gs W h (by omega) (by omega)
  go_enter Tryd.func6, Tryd.ntmps6
  go_wp2_with fail
  refine (awake_any _ HL.out).mono ?_
  rintro e w1 ⟨rfl, hb1⟩
  have Fg1 := Lib.hid (HG.out.below hb1)
  have low1 := Lib.hid (low0.out.trans (hb1.mono low0.out.size))
  obtain ⟨b, hbe⟩ : ∃ b, w.heap.size = b := ⟨_, rfl⟩
  have HS2 : Hid ((fun w' : World => w'.cell? ⟨b, 0, none⟩ = some (.int .i64 s) ∧ w'.cell? ⟨b, 1, none⟩ = some (.int .i64 d) ∧ w'.cell? ⟨b, 2, none⟩ = some (.int .i64 n)) w1.drew) := by rw [← hbe]; exact ⟨(hb1.cell (p := ⟨_, 0, none⟩) (by simp)).trans HC0.out.1, (hb1.cell (p := ⟨_, 1, none⟩) (by simp)).trans HC0.out.2.1, (hb1.cell (p := ⟨_, 2, none⟩) (by simp)).trans HC0.out.2.2⟩
  clear hb1 HG low0 HL HC0
  go_wp2_with fail
  try rw [hbe]
  refine wp_region_held_drew (S := (fun w' : World => w'.cell? ⟨b, 0, none⟩ = some (.int .i64 s) ∧ w'.cell? ⟨b, 1, none⟩ = some (.int .i64 d) ∧ w'.cell? ⟨b, 2, none⟩ = some (.int .i64 n))) (by kernel_rfl) ?_ ?_
  · exact HS2.out
  intro hHeld
  refine wpAnyH_take (i := 0) (v := ?_) rfl (by kernel_rfl) (by kernel_rfl) (by kernel_rfl) (fun _ _ _ h => h) (Or.inl ⟨by rfl, ?_⟩) (by assumption) ?_
  rotate_left
  · intro w hSw; (try dsimp only at hSw); go_simp; (try (with_reducible rfl))
  try simp only [List.getElem_toArray, List.getElem_cons_succ, List.getElem_cons_zero, Act.put, List.setIfInBounds_toArray, List.set_cons_zero, List.set_cons_succ]
  refine wpAnyH_take (i := 1) (v := ?_) rfl (by kernel_rfl) (by kernel_rfl) (by kernel_rfl) (fun _ _ _ h => h) (Or.inl ⟨by rfl, ?_⟩) (by assumption) ?_
  rotate_left
  · intro w hSw; (try dsimp only at hSw); go_simp; (try (with_reducible rfl))
  try simp only [List.getElem_toArray, List.getElem_cons_succ, List.getElem_cons_zero, Act.put, List.setIfInBounds_toArray, List.set_cons_zero, List.set_cons_succ]
  refine wpAnyH_take (i := 2) (v := ?_) rfl (by kernel_rfl) (by kernel_rfl) (by kernel_rfl) (fun _ _ _ h => h) (Or.inl ⟨by rfl, ?_⟩) (by assumption) ?_
  rotate_left
  · intro w hSw; (try dsimp only at hSw); go_simp; (try (with_reducible rfl))
  try simp only [List.getElem_toArray, List.getElem_cons_succ, List.getElem_cons_zero, Act.put, List.setIfInBounds_toArray, List.set_cons_zero, List.set_cons_succ]
  refine wpAnyH_take (i := 3) (v := ?_) rfl (by kernel_rfl) (by kernel_rfl) (by kernel_rfl) (fun _ _ _ h => h) (Or.inl ⟨by rfl, ?_⟩) (by assumption) ?_
  rotate_left
  · intro w hSw; (try dsimp only at hSw); go_simp; (try (with_reducible rfl))
  try simp only [List.getElem_toArray, List.getElem_cons_succ, List.getElem_cons_zero, Act.put, List.setIfInBounds_toArray, List.set_cons_zero, List.set_cons_succ]
  refine wpAnyH_take (i := 4) (v := ?_) rfl (by kernel_rfl) (by kernel_rfl) (by kernel_rfl) (fun _ _ _ h => h) (Or.inl ⟨by rfl, ?_⟩) (by assumption) ?_
  rotate_left
  · intro w hSw; (try dsimp only at hSw); go_simp; (try (with_reducible rfl))
  try simp only [List.getElem_toArray, List.getElem_cons_succ, List.getElem_cons_zero, Act.put, List.setIfInBounds_toArray, List.set_cons_zero, List.set_cons_succ]
  refine wpAnyH_take (i := 5) (v := ?_) rfl (by kernel_rfl) (by kernel_rfl) (by kernel_rfl) (fun _ _ _ h => h) (Or.inl ⟨by rfl, ?_⟩) (by assumption) ?_
  rotate_left
  · intro w hSw; (try dsimp only at hSw); go_simp; (try (with_reducible rfl))
  try simp only [List.getElem_toArray, List.getElem_cons_succ, List.getElem_cons_zero, Act.put, List.setIfInBounds_toArray, List.set_cons_zero, List.set_cons_succ]
  refine wpAnyH_take (i := 6) (v := ?_) rfl (by kernel_rfl) (by kernel_rfl) (by kernel_rfl) (fun _ _ _ h => h) (Or.inl ⟨by rfl, ?_⟩) (by assumption) ?_
  rotate_left
  · intro w hSw; (try dsimp only at hSw); go_simp; (try (with_reducible rfl))
  try simp only [List.getElem_toArray, List.getElem_cons_succ, List.getElem_cons_zero, Act.put, List.setIfInBounds_toArray, List.set_cons_zero, List.set_cons_succ]
  refine wpAnyH_take (i := 7) (v := ?_) rfl (by kernel_rfl) (by kernel_rfl) (by kernel_rfl) (fun _ _ _ h => h) (Or.inl ⟨by rfl, ?_⟩) (by assumption) ?_
  rotate_left
  · intro w hSw; (try dsimp only at hSw); go_simp; (try (with_reducible rfl))
  try simp only [List.getElem_toArray, List.getElem_cons_succ, List.getElem_cons_zero, Act.put, List.setIfInBounds_toArray, List.set_cons_zero, List.set_cons_succ]
  refine wpAnyH_take (i := 8) (v := ?_) rfl (by kernel_rfl) (by kernel_rfl) (by kernel_rfl) (fun _ _ _ h => h) (Or.inl ⟨by rfl, ?_⟩) (by assumption) ?_
  rotate_left
  · intro w hSw; (try dsimp only at hSw); go_simp; (try (with_reducible rfl))
  try simp only [List.getElem_toArray, List.getElem_cons_succ, List.getElem_cons_zero, Act.put, List.setIfInBounds_toArray, List.set_cons_zero, List.set_cons_succ]
  refine wpAnyH_done (by kernel_rfl) ?_ _
  clear hHeld HS2 hbe
  have hb2 : Below w1.heap.size w1 w1.drew := (Below.refl _ _).drew
  obtain ⟨w2, hw2⟩ : ∃ W, w1.drew = W := ⟨_, rfl⟩
  rw [hw2] at hb2 ⊢
  have Fg2 := Lib.hid (Fg1.out.below hb2)
  have low2 := Lib.hid (low1.out.trans (hb2.mono low1.out.size))
  clear hb2 hw2 Fg1 low1
  go_wp2_with fail
  refine (CWs.out _).mono ?_
  rintro e w' ⟨rfl, rfl⟩
  go_wp2_with fail
  refine (CWd.out _).mono ?_
  rintro e w' ⟨rfl, rfl⟩
  go_wp2_with fail
  refine (CWm.out _).mono ?_
  rintro e w' ⟨rfl, rfl⟩
  go_wp2_with fail
  refine (CGE.out _ Fg2.out).mono ?_
  rintro e w3 ⟨rfl, hb3⟩
  have Fg3 := Lib.hid (Fg2.out.below hb3)
  have low3 := Lib.hid (low2.out.trans (hb3.mono low2.out.size))
  clear hb3 Fg2 low2
  go_wp2
  go_ret
  exact ⟨rfl, low3.out⟩

set_option maxRecDepth 100000 in
set_option maxHeartbeats 8000000 in
theorem straight_out5 (s d m z : Int) (B : Option Addr) (k cB : Nat) (gs : List (Int × Int)) (w : World) (hl : LaidSides w) (hB : B = none → k = 0 ∧ cB = 0) (hg : RdP w B k gs) (hs : -10000 ≤ s ∧ s ≤ 10000) (hd : -1000 ≤ d ∧ d ≤ 1000) (hm : 2 ≤ m ∧ m ≤ 60) (hk : k ≤ 10) (n : Nat) (hmn : m = n) (d2 : Int) (hd2 : gapsE n gs = d2) (hd0 : d2 = 0) (hz : ¬ (-100000 ≤ z ∧ z ≤ 100000)) :
    Calls Tryd.prog 6 #[.agg #[.int .i64 s, .int .i64 d, .int .i64 m], .slice B k cB, .int .i64 z] w fun e w' => e = .returned (.bool true) ∧ Below w.heap.size w w' := by
  have hb0 : Below w.heap.size w (w.alloc (.cells #[.int .i64 s, .int .i64 d, .int .i64 m] 73)) := (Below.refl _ _).alloc (Nat.le_refl _) _
  have HL := Lib.hid (hl.later hb0)
  have HB := Lib.hid hB
  have HG := Lib.hid (hg.below hb0)
  have HGL : Hid (gs.length = k) := hg.1
  have HC0 : Hid ((fun w' : World => w'.cell? ⟨w.heap.size, 0, none⟩ = some (.int .i64 s) ∧ w'.cell? ⟨w.heap.size, 1, none⟩ = some (.int .i64 d) ∧ w'.cell? ⟨w.heap.size, 2, none⟩ = some (.int .i64 m)) (w.alloc (.cells #[.int .i64 s, .int .i64 d, .int .i64 m] 73))) := ⟨by simp [go_sem], by simp [go_sem], by simp [go_sem]⟩
  have low0 := Lib.hid hb0
  clear hl hB hg hb0
  have CWs : Hid (∀ W, Calls Tryd.prog 19 #[.int .i64 s, .int .i64 (-10000), .int .i64 (10000)] W fun e w' => e = .returned (.bool true) ∧ W = w') := fun W => by
    have h := within_any s (-10000) (10000) W
    rw [show fromB (-10000) (10000) [s] = true by rw [fromB_one]; exact hs] at h
    exact h
  have CWd : Hid (∀ W, Calls Tryd.prog 19 #[.int .i64 d, .int .i64 (-1000), .int .i64 (1000)] W fun e w' => e = .returned (.bool true) ∧ W = w') := fun W => by
    have h := within_any d (-1000) (1000) W
    rw [show fromB (-1000) (1000) [d] = true by rw [fromB_one]; exact hd] at h
    exact h
  have CWm : Hid (∀ W, Calls Tryd.prog 19 #[.int .i64 m, .int .i64 (2), .int .i64 (60)] W fun e w' => e = .returned (.bool true) ∧ W = w') := fun W => by
    have h := within_any m (2) (60) W
    rw [show fromB (2) (60) [m] = true by rw [fromB_one]; exact hm] at h
    exact h
  have hkI : ¬ (10 : Int) < (k : Int) := by omega
  subst hmn
  have CGE : Hid (∀ W, RdP W B k gs → Calls Tryd.prog 30 #[.int .i64 n, .slice B k cB] W fun e w' => e = .returned (.int .i64 d2) ∧ Below W.heap.size W w') := fun W h => by rw [← hd2]; exact refGapsErr_any n B k cB gs W h (by omega) (by omega)
  subst hd0
  have CWz : Hid (∀ W, Calls Tryd.prog 19 #[.int .i64 z, .int .i64 (-100000), .int .i64 (100000)] W fun e w' => e = .returned (.bool false) ∧ W = w') := fun W => by
    have h := within_any z (-100000) (100000) W
    rw [show fromB (-100000) (100000) [z] = false by rw [Bool.eq_false_iff]; intro e; exact hz (fromB_one.1 e)] at h
    exact h
  go_enter Tryd.func6, Tryd.ntmps6
  go_wp2_with fail
  refine (awake_any _ HL.out).mono ?_
  rintro e w1 ⟨rfl, hb1⟩
  have Fg1 := Lib.hid (HG.out.below hb1)
  have low1 := Lib.hid (low0.out.trans (hb1.mono low0.out.size))
  obtain ⟨b, hbe⟩ : ∃ b, w.heap.size = b := ⟨_, rfl⟩
  have HS2 : Hid ((fun w' : World => w'.cell? ⟨b, 0, none⟩ = some (.int .i64 s) ∧ w'.cell? ⟨b, 1, none⟩ = some (.int .i64 d) ∧ w'.cell? ⟨b, 2, none⟩ = some (.int .i64 n)) w1.drew) := by rw [← hbe]; exact ⟨(hb1.cell (p := ⟨_, 0, none⟩) (by simp)).trans HC0.out.1, (hb1.cell (p := ⟨_, 1, none⟩) (by simp)).trans HC0.out.2.1, (hb1.cell (p := ⟨_, 2, none⟩) (by simp)).trans HC0.out.2.2⟩
  clear hb1 HG low0 HL HC0
  go_wp2_with fail
  try rw [hbe]
  refine wp_region_held_drew (S := (fun w' : World => w'.cell? ⟨b, 0, none⟩ = some (.int .i64 s) ∧ w'.cell? ⟨b, 1, none⟩ = some (.int .i64 d) ∧ w'.cell? ⟨b, 2, none⟩ = some (.int .i64 n))) (by kernel_rfl) ?_ ?_
  · exact HS2.out
  intro hHeld
  refine wpAnyH_take (i := 0) (v := ?_) rfl (by kernel_rfl) (by kernel_rfl) (by kernel_rfl) (fun _ _ _ h => h) (Or.inl ⟨by rfl, ?_⟩) (by assumption) ?_
  rotate_left
  · intro w hSw; (try dsimp only at hSw); go_simp; (try (with_reducible rfl))
  try simp only [List.getElem_toArray, List.getElem_cons_succ, List.getElem_cons_zero, Act.put, List.setIfInBounds_toArray, List.set_cons_zero, List.set_cons_succ]
  refine wpAnyH_take (i := 1) (v := ?_) rfl (by kernel_rfl) (by kernel_rfl) (by kernel_rfl) (fun _ _ _ h => h) (Or.inl ⟨by rfl, ?_⟩) (by assumption) ?_
  rotate_left
  · intro w hSw; (try dsimp only at hSw); go_simp; (try (with_reducible rfl))
  try simp only [List.getElem_toArray, List.getElem_cons_succ, List.getElem_cons_zero, Act.put, List.setIfInBounds_toArray, List.set_cons_zero, List.set_cons_succ]
  refine wpAnyH_take (i := 2) (v := ?_) rfl (by kernel_rfl) (by kernel_rfl) (by kernel_rfl) (fun _ _ _ h => h) (Or.inl ⟨by rfl, ?_⟩) (by assumption) ?_
  rotate_left
  · intro w hSw; (try dsimp only at hSw); go_simp; (try (with_reducible rfl))
  try simp only [List.getElem_toArray, List.getElem_cons_succ, List.getElem_cons_zero, Act.put, List.setIfInBounds_toArray, List.set_cons_zero, List.set_cons_succ]
  refine wpAnyH_take (i := 3) (v := ?_) rfl (by kernel_rfl) (by kernel_rfl) (by kernel_rfl) (fun _ _ _ h => h) (Or.inl ⟨by rfl, ?_⟩) (by assumption) ?_
  rotate_left
  · intro w hSw; (try dsimp only at hSw); go_simp; (try (with_reducible rfl))
  try simp only [List.getElem_toArray, List.getElem_cons_succ, List.getElem_cons_zero, Act.put, List.setIfInBounds_toArray, List.set_cons_zero, List.set_cons_succ]
  refine wpAnyH_take (i := 4) (v := ?_) rfl (by kernel_rfl) (by kernel_rfl) (by kernel_rfl) (fun _ _ _ h => h) (Or.inl ⟨by rfl, ?_⟩) (by assumption) ?_
  rotate_left
  · intro w hSw; (try dsimp only at hSw); go_simp; (try (with_reducible rfl))
  try simp only [List.getElem_toArray, List.getElem_cons_succ, List.getElem_cons_zero, Act.put, List.setIfInBounds_toArray, List.set_cons_zero, List.set_cons_succ]
  refine wpAnyH_take (i := 5) (v := ?_) rfl (by kernel_rfl) (by kernel_rfl) (by kernel_rfl) (fun _ _ _ h => h) (Or.inl ⟨by rfl, ?_⟩) (by assumption) ?_
  rotate_left
  · intro w hSw; (try dsimp only at hSw); go_simp; (try (with_reducible rfl))
  try simp only [List.getElem_toArray, List.getElem_cons_succ, List.getElem_cons_zero, Act.put, List.setIfInBounds_toArray, List.set_cons_zero, List.set_cons_succ]
  refine wpAnyH_take (i := 6) (v := ?_) rfl (by kernel_rfl) (by kernel_rfl) (by kernel_rfl) (fun _ _ _ h => h) (Or.inl ⟨by rfl, ?_⟩) (by assumption) ?_
  rotate_left
  · intro w hSw; (try dsimp only at hSw); go_simp; (try (with_reducible rfl))
  try simp only [List.getElem_toArray, List.getElem_cons_succ, List.getElem_cons_zero, Act.put, List.setIfInBounds_toArray, List.set_cons_zero, List.set_cons_succ]
  refine wpAnyH_take (i := 7) (v := ?_) rfl (by kernel_rfl) (by kernel_rfl) (by kernel_rfl) (fun _ _ _ h => h) (Or.inl ⟨by rfl, ?_⟩) (by assumption) ?_
  rotate_left
  · intro w hSw; (try dsimp only at hSw); go_simp; (try (with_reducible rfl))
  try simp only [List.getElem_toArray, List.getElem_cons_succ, List.getElem_cons_zero, Act.put, List.setIfInBounds_toArray, List.set_cons_zero, List.set_cons_succ]
  refine wpAnyH_take (i := 8) (v := ?_) rfl (by kernel_rfl) (by kernel_rfl) (by kernel_rfl) (fun _ _ _ h => h) (Or.inl ⟨by rfl, ?_⟩) (by assumption) ?_
  rotate_left
  · intro w hSw; (try dsimp only at hSw); go_simp; (try (with_reducible rfl))
  try simp only [List.getElem_toArray, List.getElem_cons_succ, List.getElem_cons_zero, Act.put, List.setIfInBounds_toArray, List.set_cons_zero, List.set_cons_succ]
  refine wpAnyH_done (by kernel_rfl) ?_ _
  clear hHeld HS2 hbe
  have hb2 : Below w1.heap.size w1 w1.drew := (Below.refl _ _).drew
  obtain ⟨w2, hw2⟩ : ∃ W, w1.drew = W := ⟨_, rfl⟩
  rw [hw2] at hb2 ⊢
  have Fg2 := Lib.hid (Fg1.out.below hb2)
  have low2 := Lib.hid (low1.out.trans (hb2.mono low1.out.size))
  clear hb2 hw2 Fg1 low1
  go_wp2_with fail
  refine (CWs.out _).mono ?_
  rintro e w' ⟨rfl, rfl⟩
  go_wp2_with fail
  refine (CWd.out _).mono ?_
  rintro e w' ⟨rfl, rfl⟩
  go_wp2_with fail
  refine (CWm.out _).mono ?_
  rintro e w' ⟨rfl, rfl⟩
  go_wp2_with fail
  refine (CGE.out _ Fg2.out).mono ?_
  rintro e w3 ⟨rfl, hb3⟩
  have Fg3 := Lib.hid (Fg2.out.below hb3)
  have low3 := Lib.hid (low2.out.trans (hb3.mono low2.out.size))
  clear hb3 Fg2 low2
  go_wp2_with fail
  refine (CWz.out _).mono ?_
  rintro e w' ⟨rfl, rfl⟩
  go_wp2
  go_ret
  exact ⟨rfl, low3.out⟩

end Go.Proofs.YtnmfeonagigkeaaDoor

namespace Go.Proofs.YtnmfeonagigkeaaDoor
open Go.RowKit

set_option maxRecDepth 100000 in
set_option maxHeartbeats 8000000 in
theorem straight_okn (s d m z : Int) (B : Option Addr) (k cB : Nat) (gs : List (Int × Int)) (w : World) (hl : LaidSides w) (hB : B = none → k = 0 ∧ cB = 0) (hg : RdP w B k gs) (hs : -10000 ≤ s ∧ s ≤ 10000) (hd : -1000 ≤ d ∧ d ≤ 1000) (hm : 2 ≤ m ∧ m ≤ 60) (hk : k ≤ 10) (n : Nat) (hmn : m = n) (hd2 : gapsE n gs = 0) (hz : -100000 ≤ z ∧ z ≤ 100000) (hBn : B = none) :
    Calls Tryd.prog 6 #[.agg #[.int .i64 s, .int .i64 d, .int .i64 m], .slice B k cB, .int .i64 z] w fun e w' => e = .returned (.bool true) ∧ Below w.heap.size w w' := by
  have hb0 : Below w.heap.size w (w.alloc (.cells #[.int .i64 s, .int .i64 d, .int .i64 m] 73)) := (Below.refl _ _).alloc (Nat.le_refl _) _
  have HL := Lib.hid (hl.later hb0)
  have HB := Lib.hid hB
  have HG := Lib.hid (hg.below hb0)
  have HGL : Hid (gs.length = k) := hg.1
  have HC0 : Hid ((fun w' : World => w'.cell? ⟨w.heap.size, 0, none⟩ = some (.int .i64 s) ∧ w'.cell? ⟨w.heap.size, 1, none⟩ = some (.int .i64 d) ∧ w'.cell? ⟨w.heap.size, 2, none⟩ = some (.int .i64 m)) (w.alloc (.cells #[.int .i64 s, .int .i64 d, .int .i64 m] 73))) := ⟨by simp [go_sem], by simp [go_sem], by simp [go_sem]⟩
  have low0 := Lib.hid hb0
  clear hl hB hg hb0
  have CWs : Hid (∀ W, Calls Tryd.prog 19 #[.int .i64 s, .int .i64 (-10000), .int .i64 (10000)] W fun e w' => e = .returned (.bool true) ∧ W = w') := fun W => by
    have h := within_any s (-10000) (10000) W
    rw [show fromB (-10000) (10000) [s] = true by rw [fromB_one]; exact hs] at h
    exact h
  have CWd : Hid (∀ W, Calls Tryd.prog 19 #[.int .i64 d, .int .i64 (-1000), .int .i64 (1000)] W fun e w' => e = .returned (.bool true) ∧ W = w') := fun W => by
    have h := within_any d (-1000) (1000) W
    rw [show fromB (-1000) (1000) [d] = true by rw [fromB_one]; exact hd] at h
    exact h
  have CWm : Hid (∀ W, Calls Tryd.prog 19 #[.int .i64 m, .int .i64 (2), .int .i64 (60)] W fun e w' => e = .returned (.bool true) ∧ W = w') := fun W => by
    have h := within_any m (2) (60) W
    rw [show fromB (2) (60) [m] = true by rw [fromB_one]; exact hm] at h
    exact h
  have CWz : Hid (∀ W, Calls Tryd.prog 19 #[.int .i64 z, .int .i64 (-100000), .int .i64 (100000)] W fun e w' => e = .returned (.bool true) ∧ W = w') := fun W => by
    have h := within_any z (-100000) (100000) W
    rw [show fromB (-100000) (100000) [z] = true by rw [fromB_one]; exact hz] at h
    exact h
  have hkI : ¬ (10 : Int) < (k : Int) := by omega
  subst hmn
  have CGE : Hid (∀ W, RdP W B k gs → Calls Tryd.prog 30 #[.int .i64 n, .slice B k cB] W fun e w' => e = .returned (.int .i64 0) ∧ Below W.heap.size W w') := fun W h => by rw [← hd2]; exact refGapsErr_any n B k cB gs W h (by omega) (by omega)
  have hn2 : 2 ≤ n := by omega
  have hn60 : n ≤ 60 := by omega
  have HN : Hid (n ≤ 1000000) := by show _ ≤ _; omega
  have HD2 := Lib.hid hd2
  have HGF := Lib.hid (gapsE_ok hd2)
  obtain ⟨i0, hi_, hz0, hz1, hz2⟩ := info_parts rngInfo
  obtain ⟨i0', hi0', hz0', hz1', hz2'⟩ := info_parts intInfo'
  have hlv := line_vel hs hd hn60 hn2
  have hlt_ := line_turn hs hd hn60 hn2
  have hlj := line_jmp (n := n) hs hd hn60
  have HLS := Lib.hid (lineL_small hs hd hn60)
  have HLNL : Hid ((lineL s d n).length = n) := lineL_length s d n
  obtain ⟨ln, hln⟩ : ∃ l, lineL s d n = l := ⟨_, rfl⟩
  have HLNE := Lib.hid hln
  rw [hln] at hlv hlt_ hlj HLS HLNL
  obtain ⟨vl, hvl⟩ : ∃ l, velX ln = l := ⟨_, rfl⟩
  rw [hvl] at hlv
  obtain ⟨nv, hnv⟩ : ∃ q, n - 1 = q := ⟨_, rfl⟩
  rw [hnv] at hlv
  have HVL := Lib.hid hlv
  obtain ⟨ds, hds⟩ : ∃ x, (if d < 0 then -d else d) = x := ⟨_, rfl⟩
  rw [hds] at hlj
  have CSZ : Hid (∀ W, Calls Tryd.prog 34 #[.int .i64 d] W fun e w' => e = .returned (.int .i64 ds) ∧ W = w') := fun W => by rw [← hds]; exact size_any d W (by omega)
  have CV : Hid (∀ W A c, RdI W A n ln → Calls Tryd.prog 32 #[.slice A n c] W (OwnRes W 0 vl)) := fun W A c h => by
    have h1 := VelocitiesOf_any A n c ln W h HN.out
    rw [hlt_, hvl] at h1
    exact h1
  have CJ : Hid (∀ W A c, RdI W A n ln → Calls Tryd.prog 33 #[.slice A n c, .int .i64 ds] W (OwnRes W 0 [])) := fun W A c h => by
    have h1 := JumpsIn_any A n c ln ds W h HN.out
    rw [hlj.1, hlj.2] at h1
    exact h1
  have CI : Hid (∀ W A B c d, RdI W A n ln → RdI W B n ln → Calls Tryd.prog 15 #[.slice A n c, .slice B n d] W fun e w' => e = .returned (.bool true) ∧ ∃ k, w' = W.drewN k) := fun W A B c d h1 h2 => by
    have h := ints_any A B n n c d ln ln W h1 h2 (by omega) (by omega)
    rw [show decide (ln = ln) = true by simp] at h
    exact h
  have hnq : IntKind.i64.wrap ((n : Int) - 1) = (nv : Int) := by rw [show (n : Int) - 1 = (nv : Int) by omega]; exact IntWalk.i64_in _ (by omega)
  have hvv : ((nv : Int) != (nv : Int)) = false := bne_self_eq_false' _
  have hdd : (d != d) = false := bne_self_eq_false' _
  have hnvb : nv ≤ 60 := by omega
  clear hd2 hlv hlt_ hlj hln hvl hds hnv
  subst hBn
  obtain ⟨rfl, rfl⟩ := HB.out rfl
  obtain rfl : gs = [] := List.eq_nil_of_length_eq_zero HGL.out
  go_enter Tryd.func6, Tryd.ntmps6
  go_wp2_with fail
  refine (awake_any _ HL.out).mono ?_
  rintro e w1 ⟨rfl, hb1⟩
  have Fg1 := Lib.hid (HG.out.below hb1)
  have low1 := Lib.hid (low0.out.trans (hb1.mono low0.out.size))
  obtain ⟨b, hbe⟩ : ∃ b, w.heap.size = b := ⟨_, rfl⟩
  have HS2 : Hid ((fun w' : World => w'.cell? ⟨b, 0, none⟩ = some (.int .i64 s) ∧ w'.cell? ⟨b, 1, none⟩ = some (.int .i64 d) ∧ w'.cell? ⟨b, 2, none⟩ = some (.int .i64 n)) w1.drew) := by rw [← hbe]; exact ⟨(hb1.cell (p := ⟨_, 0, none⟩) (by simp)).trans HC0.out.1, (hb1.cell (p := ⟨_, 1, none⟩) (by simp)).trans HC0.out.2.1, (hb1.cell (p := ⟨_, 2, none⟩) (by simp)).trans HC0.out.2.2⟩
  clear hb1 HG low0 HL HC0
  go_wp2_with fail
  try rw [hbe]
  refine wp_region_held_drew (S := (fun w' : World => w'.cell? ⟨b, 0, none⟩ = some (.int .i64 s) ∧ w'.cell? ⟨b, 1, none⟩ = some (.int .i64 d) ∧ w'.cell? ⟨b, 2, none⟩ = some (.int .i64 n))) (by kernel_rfl) ?_ ?_
  · exact HS2.out
  intro hHeld
  refine wpAnyH_take (i := 0) (v := ?_) rfl (by kernel_rfl) (by kernel_rfl) (by kernel_rfl) (fun _ _ _ h => h) (Or.inl ⟨by rfl, ?_⟩) (by assumption) ?_
  rotate_left
  · intro w hSw; (try dsimp only at hSw); go_simp; (try (with_reducible rfl))
  try simp only [List.getElem_toArray, List.getElem_cons_succ, List.getElem_cons_zero, Act.put, List.setIfInBounds_toArray, List.set_cons_zero, List.set_cons_succ]
  refine wpAnyH_take (i := 1) (v := ?_) rfl (by kernel_rfl) (by kernel_rfl) (by kernel_rfl) (fun _ _ _ h => h) (Or.inl ⟨by rfl, ?_⟩) (by assumption) ?_
  rotate_left
  · intro w hSw; (try dsimp only at hSw); go_simp; (try (with_reducible rfl))
  try simp only [List.getElem_toArray, List.getElem_cons_succ, List.getElem_cons_zero, Act.put, List.setIfInBounds_toArray, List.set_cons_zero, List.set_cons_succ]
  refine wpAnyH_take (i := 2) (v := ?_) rfl (by kernel_rfl) (by kernel_rfl) (by kernel_rfl) (fun _ _ _ h => h) (Or.inl ⟨by rfl, ?_⟩) (by assumption) ?_
  rotate_left
  · intro w hSw; (try dsimp only at hSw); go_simp; (try (with_reducible rfl))
  try simp only [List.getElem_toArray, List.getElem_cons_succ, List.getElem_cons_zero, Act.put, List.setIfInBounds_toArray, List.set_cons_zero, List.set_cons_succ]
  refine wpAnyH_take (i := 3) (v := ?_) rfl (by kernel_rfl) (by kernel_rfl) (by kernel_rfl) (fun _ _ _ h => h) (Or.inl ⟨by rfl, ?_⟩) (by assumption) ?_
  rotate_left
  · intro w hSw; (try dsimp only at hSw); go_simp; (try (with_reducible rfl))
  try simp only [List.getElem_toArray, List.getElem_cons_succ, List.getElem_cons_zero, Act.put, List.setIfInBounds_toArray, List.set_cons_zero, List.set_cons_succ]
  refine wpAnyH_take (i := 4) (v := ?_) rfl (by kernel_rfl) (by kernel_rfl) (by kernel_rfl) (fun _ _ _ h => h) (Or.inl ⟨by rfl, ?_⟩) (by assumption) ?_
  rotate_left
  · intro w hSw; (try dsimp only at hSw); go_simp; (try (with_reducible rfl))
  try simp only [List.getElem_toArray, List.getElem_cons_succ, List.getElem_cons_zero, Act.put, List.setIfInBounds_toArray, List.set_cons_zero, List.set_cons_succ]
  refine wpAnyH_take (i := 5) (v := ?_) rfl (by kernel_rfl) (by kernel_rfl) (by kernel_rfl) (fun _ _ _ h => h) (Or.inl ⟨by rfl, ?_⟩) (by assumption) ?_
  rotate_left
  · intro w hSw; (try dsimp only at hSw); go_simp; (try (with_reducible rfl))
  try simp only [List.getElem_toArray, List.getElem_cons_succ, List.getElem_cons_zero, Act.put, List.setIfInBounds_toArray, List.set_cons_zero, List.set_cons_succ]
  refine wpAnyH_take (i := 6) (v := ?_) rfl (by kernel_rfl) (by kernel_rfl) (by kernel_rfl) (fun _ _ _ h => h) (Or.inl ⟨by rfl, ?_⟩) (by assumption) ?_
  rotate_left
  · intro w hSw; (try dsimp only at hSw); go_simp; (try (with_reducible rfl))
  try simp only [List.getElem_toArray, List.getElem_cons_succ, List.getElem_cons_zero, Act.put, List.setIfInBounds_toArray, List.set_cons_zero, List.set_cons_succ]
  refine wpAnyH_take (i := 7) (v := ?_) rfl (by kernel_rfl) (by kernel_rfl) (by kernel_rfl) (fun _ _ _ h => h) (Or.inl ⟨by rfl, ?_⟩) (by assumption) ?_
  rotate_left
  · intro w hSw; (try dsimp only at hSw); go_simp; (try (with_reducible rfl))
  try simp only [List.getElem_toArray, List.getElem_cons_succ, List.getElem_cons_zero, Act.put, List.setIfInBounds_toArray, List.set_cons_zero, List.set_cons_succ]
  refine wpAnyH_take (i := 8) (v := ?_) rfl (by kernel_rfl) (by kernel_rfl) (by kernel_rfl) (fun _ _ _ h => h) (Or.inl ⟨by rfl, ?_⟩) (by assumption) ?_
  rotate_left
  · intro w hSw; (try dsimp only at hSw); go_simp; (try (with_reducible rfl))
  try simp only [List.getElem_toArray, List.getElem_cons_succ, List.getElem_cons_zero, Act.put, List.setIfInBounds_toArray, List.set_cons_zero, List.set_cons_succ]
  refine wpAnyH_done (by kernel_rfl) ?_ _
  clear hHeld HS2 hbe
  have hb2 : Below w1.heap.size w1 w1.drew := (Below.refl _ _).drew
  obtain ⟨w2, hw2⟩ : ∃ W, w1.drew = W := ⟨_, rfl⟩
  rw [hw2] at hb2 ⊢
  have Fg2 := Lib.hid (Fg1.out.below hb2)
  have low2 := Lib.hid (low1.out.trans (hb2.mono low1.out.size))
  clear hb2 hw2 Fg1 low1
  go_wp2_with fail
  refine (CWs.out _).mono ?_
  rintro e w' ⟨rfl, rfl⟩
  go_wp2_with fail
  refine (CWd.out _).mono ?_
  rintro e w' ⟨rfl, rfl⟩
  go_wp2_with fail
  refine (CWm.out _).mono ?_
  rintro e w' ⟨rfl, rfl⟩
  go_wp2_with fail
  refine (CGE.out _ Fg2.out).mono ?_
  rintro e w3 ⟨rfl, hb3⟩
  have Fg3 := Lib.hid (Fg2.out.below hb3)
  have low3 := Lib.hid (low2.out.trans (hb3.mono low2.out.size))
  clear hb3 Fg2 low2
  go_wp2_with fail
  refine (CWz.out _).mono ?_
  rintro e w' ⟨rfl, rfl⟩
  go_wp2
  go_loopw [10, 11] (fun l i wr => ∃ j : Nat, j ≤ n ∧ i = .int .i64 j ∧ Hid (wr.ownsRow w3.heap.size 3 1 l j ((lineL s d j).map (Value.int .i64)) ∧ Below w3.heap.size w3 wr)) (fun _ i _ => n - (intOf i).toNat)
  case atStart => exact ⟨0, Nat.zero_le _, rfl, World.ownsRow_nil _ _ _ _, Below.refl _ _⟩
  case round =>
    obtain ⟨j, hj, rfl, HI⟩ := hrel
    by_cases hlt : j < n
    · have hjI : (j : Int) < (n : Int) := by omega
      have hbd := line_bd (i := j) hs hd (by omega)
      have hsu := lineL_succ s d j
      obtain ⟨p, hp⟩ : ∃ p : Int, (j : Int) * d = p := ⟨_, rfl⟩
      rw [hp] at hbd hsu
      have hy1 : IntKind.i64.wrap ((j : Int) * d) = p := by rw [hp]; exact IntWalk.i64_in _ (by omega)
      obtain ⟨q, hq⟩ : ∃ q : Int, s + p = q := ⟨_, rfl⟩
      rw [hq] at hsu
      have hy2 : IntKind.i64.wrap (s + p) = q := by rw [hq]; exact IntWalk.i64_in _ (by omega)
      have HJ := Lib.hid hsu
      have hsz : w3.heap.size ≤ wr.heap.size := HI.out.2.size
      clear hp hq hsu hbd
      go_wp2_with (at_builtin; refine wpList_append_own _ rfl (.tmp 64) (.tmp 70) 38 rfl w3.heap.size 3 i0' _ 1 8 Tryd.underlying38 hi0' hz0' hz1' hz2' rfl (by decide) _ _ _ rfl (HI.out.1.alloc _) ⟨wr.heap.size, 0, none⟩ 1 1 [.int .i64 q] rfl rfl (cell_one_new _ _ _) (by simp [Value.oneCell']) (by unfold maxLen; omega) (by omega) (by simp; omega) ?_)
      intro v' w4 hown' hgrow _
      have HFIN : Hid (w4.ownsRow w3.heap.size 3 1 v' (j + 1) ((lineL s d (j + 1)).map (Value.int .i64)) ∧ Below w3.heap.size w3 w4) := by
        refine ⟨by rw [HJ.out, List.map_append]; exact hown', (HI.out.2.alloc HI.out.2.size _).grown hgrow (by simp; omega) (fun z e => (HI.out.1.lt z e).1)⟩
      clear hown' hgrow hy1 hy2
      go_wp2
      go_roundw
      case rel => exact ⟨j + 1, by omega, by go_num, HFIN.out⟩
      case measure => simp [intOf]; omega
    · obtain rfl : n = j := by omega
      obtain ⟨Al, cl, rfl, _, hrl, nl⟩ := rd_ownN HI.out.1
      obtain ⟨wA, hwA⟩ : ∃ W, W = wr := ⟨_, rfl⟩
      subst hwA
      have hb4 := HI.out.2
      rw [HLNE.out] at hrl
      have NL := Lib.hid nl
      have Fg4 := Lib.hid (Fg3.out.below hb4)
      have low4 := Lib.hid (low3.out.trans (hb4.mono low3.out.size))
      have Fl := Lib.hid hrl
      clear HI hrl hlt hj nl hb4 Fg3 low3
      go_wp2_with fail
      refine (copyInts_any Al n cl ln _ NL.out Fl.out HN.out).mono ?_
      rintro e w5 ⟨⟨v5, rfl, ho5⟩, hb5⟩
      rw [HLNL.out] at ho5
      obtain ⟨g, cap, rfl⟩ : ∃ g cap, v5 = .slice (some ⟨g, 0, none⟩) n cap := by
        rcases ho5.2 with ⟨_, h0⟩ | ⟨g, cap, cur, e, _⟩
        · omega
        · exact ⟨g, cap, e⟩
      have hgw : wA.heap.size ≤ g := (ho5.lt g rfl).1
      have HO1 := Lib.hid ho5
      have HB1 := Lib.hid hb5
      clear ho5 hb5
      go_wp2
      go_loopw [13] (fun i wq => ∃ t : Nat, t ≤ 0 ∧ i = .int .i64 t ∧ Hid (∀ q, q < t → (([] : List (Int × Int)).getD q (0, 0)).1 ≠ 0 ∧ (([] : List (Int × Int)).getD q (0, 0)).2 ≠ (n : Int) - 1) ∧ Hid (wq.ownsRow wA.heap.size 3 1 (.slice (some ⟨g, 0, none⟩) n cap) n ((spL z ln (([] : List (Int × Int)).take t)).map (Value.int .i64)) ∧ Below wA.heap.size wA wq)) (fun i _ => 0 - (intOf i).toNat)
      case atStart => exact ⟨0, Nat.zero_le _, rfl, fun q hq => absurd hq (by omega), HO1.out, HB1.out⟩
      case round =>
        obtain ⟨t, ht, rfl, HNE, HI⟩ := hrel
        by_cases htl : t < 0
        · exact absurd htl (by omega)
        · obtain rfl : t = 0 := by omega
          obtain ⟨wB, hwB⟩ : ∃ W, W = wr := ⟨_, rfl⟩
          subst hwB
          have hb6 := HI.out.2
          have hsp := HI.out.1
          rw [List.take_nil] at hsp
          have HST := Lib.hid (straight (s := s) (d := d) (z := z) HGF.out (fun q hq => HNE.out q (by have h := HGL.out; omega)))
          rw [HLNE.out] at HST
          obtain ⟨sp, hspe⟩ : ∃ l, spL z ln ([] : List (Int × Int)) = l := ⟨_, rfl⟩
          rw [hspe] at HST hsp
          have HSPS : Hid (Small sp ∧ sp.length = n) := by show _ ∧ _; rw [← hspe]; exact ⟨spL_small hz _ _ HLS.out, by rw [spL_length, HLNL.out]⟩
          have hrs : RdI wB (some ⟨g, 0, none⟩) n sp := by
            obtain ⟨A', c', e, _, h, _⟩ := rd_ownN hsp
            cases e
            exact h
          have Fg6 := Lib.hid (Fg4.out.below hb6)
          have Fl6 := Lib.hid (Fl.out.below hb6)
          have low6 := Lib.hid (low4.out.trans (hb6.mono low4.out.size))
          have Fs := Lib.hid hrs
          clear hsp hspe hrs HI HNE HO1 HB1 hb6 Fg4 Fl low4
          have CB : Hid (∀ W h ch cm, RdI W (some ⟨g, 0, none⟩) n sp → RdR W h 0 ([] : List (Int × Int)) → Calls Tryd.prog 27 #[.slice (some ⟨g, 0, none⟩) n ch, .slice (some ⟨h, 0, none⟩) 0 cm] W (OwnRes W 0 ln)) := fun W h ch cm h1 h2 => by
            have e0 : posE sp = 0 := small_pos (by rw [HSPS.out.2]; omega) HSPS.out.1
            have e1 : brE sp ([] : List (Int × Int)) = 0 := by unfold brE; rw [if_pos e0, HSPS.out.2]; exact HD2.out
            have e2 : brL sp ([] : List (Int × Int)) = ln := by unfold brL; rw [if_pos e1, ← refL_same (by rw [HSPS.out.2]; exact HGF.out)]; exact HST.out
            have h3 := Bridged_any (some ⟨g, 0, none⟩) n ch h 0 cm sp ([] : List (Int × Int)) W h1 h2 HN.out (by omega)
            rw [e1, e2] at h3
            exact h3
          have ho : Hid ((wB.alloc (.cells #[] 28)).ownsRow wB.heap.size 28 2 (.slice (some ⟨wB.heap.size, 0, none⟩) 0 0) 0 ([] : List Value)) := World.ownsRow_lit wB #[] 0 (Nat.le_refl _) (by unfold maxLen; omega) rfl
          go_wp2_with (at_builtin; refine wpList_append_own_none rfl (.tmp 116) (.tmp 117) 65 rfl wB.heap.size 28 i0 2 Tryd.underlying65 hi_ _ _ _ rfl ho.out rfl ?_)
          have hb7 : Below wB.heap.size wB (wB.alloc (.cells #[] 28)) := (Below.refl _ _).alloc (Nat.le_refl _) _
          have hrd7 := rdR_of_own ho.out rfl (ps := [])
          obtain ⟨gg, hgg⟩ : ∃ g, wB.heap.size = g := ⟨_, rfl⟩
          obtain ⟨w7, hw7⟩ : ∃ W, wB.alloc (.cells #[] 28) = W := ⟨_, rfl⟩
          rw [hgg] at hrd7
          rw [hw7] at hb7 hrd7 ⊢
          try rw [hgg]
          have FG := Lib.hid hrd7
          have Fg7 := Lib.hid (Fg6.out.below hb7)
          have Fl7 := Lib.hid (Fl6.out.below hb7)
          have Fs7 := Lib.hid (Fs.out.below hb7)
          have low7 := Lib.hid (low6.out.trans (hb7.mono low6.out.size))
          clear ho hb7 hw7 hgg hrd7 Fg6 Fl6 Fs low6
          go_wp2_with fail
          refine (CB.out _ _ _ _ Fs7.out FG.out).mono ?_
          rintro e w8 ⟨⟨v8, rfl, ho8⟩, hb8⟩
          have Fl8 := Lib.hid (Fl7.out.below hb8)
          have low8 := Lib.hid (low7.out.trans (hb8.mono low7.out.size))
          rw [HLNL.out] at ho8
          obtain ⟨Ay, cy, rfl, _, hry, ny⟩ := rd_ownN ho8
          have Fy := Lib.hid hry
          clear hb8 Fg7 Fl7 Fs7 low7 ho8 hry ny FG
          go_wp2_with fail
          refine (copyInts_any Al n cl ln _ NL.out Fl8.out HN.out).mono ?_
          rintro e w9 ⟨⟨v9, rfl, ho9⟩, hb9⟩
          have Fl9 := Lib.hid (Fl8.out.below hb9)
          have Fy9 := Lib.hid (Fy.out.below hb9)
          have low9 := Lib.hid (low8.out.trans (hb9.mono low8.out.size))
          rw [HLNL.out] at ho9
          obtain ⟨Aa, ca, rfl, _, hra, na⟩ := rd_ownN ho9
          have Fa := Lib.hid hra
          clear hb9 Fl8 Fy low8 ho9 hra na
          go_wp2_with fail
          refine (CV.out _ _ _ Fa.out).mono ?_
          rintro e w10 ⟨⟨v10, rfl, ho10⟩, hb10⟩
          have Fl10 := Lib.hid (Fl9.out.below hb10)
          have Fy10 := Lib.hid (Fy9.out.below hb10)
          have low10 := Lib.hid (low9.out.trans (hb10.mono low9.out.size))
          rw [HVL.out.1] at ho10
          obtain ⟨Ae, ce, rfl, _, hre, ne⟩ := rd_ownN ho10
          have Fe := Lib.hid hre
          clear hb10 Fl9 Fy9 Fa low9 ho10 hre ne
          go_wp2_with fail
          refine (copyInts_any Al n cl ln _ NL.out Fl10.out HN.out).mono ?_
          rintro e w11 ⟨⟨v11, rfl, ho11⟩, hb11⟩
          have Fl11 := Lib.hid (Fl10.out.below hb11)
          have Fy11 := Lib.hid (Fy10.out.below hb11)
          have Fe11 := Lib.hid (Fe.out.below hb11)
          have low11 := Lib.hid (low10.out.trans (hb11.mono low10.out.size))
          rw [HLNL.out] at ho11
          obtain ⟨Ac, cc, rfl, _, hrc, nc⟩ := rd_ownN ho11
          have Fc := Lib.hid hrc
          clear hb11 Fl10 Fy10 Fe low10 ho11 hrc nc
          go_wp2_with fail
          refine (CSZ.out _).mono ?_
          rintro e w' ⟨rfl, rfl⟩
          go_wp2_with fail
          refine (CJ.out _ _ _ Fc.out).mono ?_
          rintro e w12 ⟨⟨v12, rfl, ho12⟩, hb12⟩
          have Fl12 := Lib.hid (Fl11.out.below hb12)
          have Fy12 := Lib.hid (Fy11.out.below hb12)
          have Fe12 := Lib.hid (Fe11.out.below hb12)
          have low12 := Lib.hid (low11.out.trans (hb12.mono low11.out.size))
          obtain ⟨Aj, cj, rfl, _, hrj, nj⟩ := rd_ownN ho12
          clear hb12 Fl11 Fy11 Fe11 Fc low11 ho12 hrj nj
          go_wp2_with fail
          refine (CI.out _ _ _ _ _ Fy12.out Fl12.out).mono ?_
          rintro e w' ⟨rfl, kk, rfl⟩
          have hb13 : Below w12.heap.size w12 (w12.drewN kk) := belowDrewN (Below.refl _ _) kk
          obtain ⟨w13, hw13⟩ : ∃ W, w12.drewN kk = W := ⟨_, rfl⟩
          rw [hw13] at hb13 ⊢
          have Fe13 := Lib.hid (Fe12.out.below hb13)
          have low13 := Lib.hid (low12.out.trans (hb13.mono low12.out.size))
          clear hb13 hw13 Fl12 Fy12 Fe12 low12
          go_wp2
          go_loop [21] (fun i => ∃ j : Nat, j ≤ nv ∧ i = .int .i64 j) (fun i => nv - (intOf i).toNat)
          case atStart => exact ⟨0, Nat.zero_le _, rfl⟩
          case round =>
            obtain ⟨j, hj, rfl⟩ := hrel
            by_cases hlt : j < nv
            · have hjI : (j : Int) < (nv : Int) := by omega
              have hj0 : (0 : Int) ≤ (j : Int) := by omega
              obtain ⟨av, hav, _, hcv⟩ := Fe13.out.2 (by omega)
              have y1 := hcv j hlt
              clear hcv
              cases hav
              rw [HVL.out.2 j hlt] at y1
              go_wp2
              go_round
              case rel => exact ⟨j + 1, by omega, by go_num⟩
              case measure => simp [intOf]; omega
            · obtain rfl : nv = j := by omega
              go_wp2
              go_ret
              exact ⟨rfl, low13.out⟩

end Go.Proofs.YtnmfeonagigkeaaDoor

namespace Go.Proofs.YtnmfeonagigkeaaDoor
open Go.RowKit

set_option maxRecDepth 100000 in
set_option maxHeartbeats 8000000 in
theorem straight_oks (s d m z : Int) (B : Option Addr) (k cB : Nat) (gs : List (Int × Int)) (w : World) (hl : LaidSides w) (hB : B = none → k = 0 ∧ cB = 0) (hg : RdP w B k gs) (hs : -10000 ≤ s ∧ s ≤ 10000) (hd : -1000 ≤ d ∧ d ≤ 1000) (hm : 2 ≤ m ∧ m ≤ 60) (hk : k ≤ 10) (n : Nat) (hmn : m = n) (hd2 : gapsE n gs = 0) (hz : -100000 ≤ z ∧ z ≤ 100000) (ad : Addr) (hBs : B = some ad) :
    Calls Tryd.prog 6 #[.agg #[.int .i64 s, .int .i64 d, .int .i64 m], .slice B k cB, .int .i64 z] w fun e w' => e = .returned (.bool true) ∧ Below w.heap.size w w' := by
  have hb0 : Below w.heap.size w (w.alloc (.cells #[.int .i64 s, .int .i64 d, .int .i64 m] 73)) := (Below.refl _ _).alloc (Nat.le_refl _) _
  have HL := Lib.hid (hl.later hb0)
  have HB := Lib.hid hB
  have HG := Lib.hid (hg.below hb0)
  have HGL : Hid (gs.length = k) := hg.1
  have HC0 : Hid ((fun w' : World => w'.cell? ⟨w.heap.size, 0, none⟩ = some (.int .i64 s) ∧ w'.cell? ⟨w.heap.size, 1, none⟩ = some (.int .i64 d) ∧ w'.cell? ⟨w.heap.size, 2, none⟩ = some (.int .i64 m)) (w.alloc (.cells #[.int .i64 s, .int .i64 d, .int .i64 m] 73))) := ⟨by simp [go_sem], by simp [go_sem], by simp [go_sem]⟩
  have low0 := Lib.hid hb0
  clear hl hB hg hb0
  have CWs : Hid (∀ W, Calls Tryd.prog 19 #[.int .i64 s, .int .i64 (-10000), .int .i64 (10000)] W fun e w' => e = .returned (.bool true) ∧ W = w') := fun W => by
    have h := within_any s (-10000) (10000) W
    rw [show fromB (-10000) (10000) [s] = true by rw [fromB_one]; exact hs] at h
    exact h
  have CWd : Hid (∀ W, Calls Tryd.prog 19 #[.int .i64 d, .int .i64 (-1000), .int .i64 (1000)] W fun e w' => e = .returned (.bool true) ∧ W = w') := fun W => by
    have h := within_any d (-1000) (1000) W
    rw [show fromB (-1000) (1000) [d] = true by rw [fromB_one]; exact hd] at h
    exact h
  have CWm : Hid (∀ W, Calls Tryd.prog 19 #[.int .i64 m, .int .i64 (2), .int .i64 (60)] W fun e w' => e = .returned (.bool true) ∧ W = w') := fun W => by
    have h := within_any m (2) (60) W
    rw [show fromB (2) (60) [m] = true by rw [fromB_one]; exact hm] at h
    exact h
  have CWz : Hid (∀ W, Calls Tryd.prog 19 #[.int .i64 z, .int .i64 (-100000), .int .i64 (100000)] W fun e w' => e = .returned (.bool true) ∧ W = w') := fun W => by
    have h := within_any z (-100000) (100000) W
    rw [show fromB (-100000) (100000) [z] = true by rw [fromB_one]; exact hz] at h
    exact h
  have hkI : ¬ (10 : Int) < (k : Int) := by omega
  subst hmn
  have CGE : Hid (∀ W, RdP W B k gs → Calls Tryd.prog 30 #[.int .i64 n, .slice B k cB] W fun e w' => e = .returned (.int .i64 0) ∧ Below W.heap.size W w') := fun W h => by rw [← hd2]; exact refGapsErr_any n B k cB gs W h (by omega) (by omega)
  have hn2 : 2 ≤ n := by omega
  have hn60 : n ≤ 60 := by omega
  have HN : Hid (n ≤ 1000000) := by show _ ≤ _; omega
  have HD2 := Lib.hid hd2
  have HGF := Lib.hid (gapsE_ok hd2)
  obtain ⟨i0, hi_, hz0, hz1, hz2⟩ := info_parts rngInfo
  obtain ⟨i0', hi0', hz0', hz1', hz2'⟩ := info_parts intInfo'
  have hlv := line_vel hs hd hn60 hn2
  have hlt_ := line_turn hs hd hn60 hn2
  have hlj := line_jmp (n := n) hs hd hn60
  have HLS := Lib.hid (lineL_small hs hd hn60)
  have HLNL : Hid ((lineL s d n).length = n) := lineL_length s d n
  obtain ⟨ln, hln⟩ : ∃ l, lineL s d n = l := ⟨_, rfl⟩
  have HLNE := Lib.hid hln
  rw [hln] at hlv hlt_ hlj HLS HLNL
  obtain ⟨vl, hvl⟩ : ∃ l, velX ln = l := ⟨_, rfl⟩
  rw [hvl] at hlv
  obtain ⟨nv, hnv⟩ : ∃ q, n - 1 = q := ⟨_, rfl⟩
  rw [hnv] at hlv
  have HVL := Lib.hid hlv
  obtain ⟨ds, hds⟩ : ∃ x, (if d < 0 then -d else d) = x := ⟨_, rfl⟩
  rw [hds] at hlj
  have CSZ : Hid (∀ W, Calls Tryd.prog 34 #[.int .i64 d] W fun e w' => e = .returned (.int .i64 ds) ∧ W = w') := fun W => by rw [← hds]; exact size_any d W (by omega)
  have CV : Hid (∀ W A c, RdI W A n ln → Calls Tryd.prog 32 #[.slice A n c] W (OwnRes W 0 vl)) := fun W A c h => by
    have h1 := VelocitiesOf_any A n c ln W h HN.out
    rw [hlt_, hvl] at h1
    exact h1
  have CJ : Hid (∀ W A c, RdI W A n ln → Calls Tryd.prog 33 #[.slice A n c, .int .i64 ds] W (OwnRes W 0 [])) := fun W A c h => by
    have h1 := JumpsIn_any A n c ln ds W h HN.out
    rw [hlj.1, hlj.2] at h1
    exact h1
  have CI : Hid (∀ W A B c d, RdI W A n ln → RdI W B n ln → Calls Tryd.prog 15 #[.slice A n c, .slice B n d] W fun e w' => e = .returned (.bool true) ∧ ∃ k, w' = W.drewN k) := fun W A B c d h1 h2 => by
    have h := ints_any A B n n c d ln ln W h1 h2 (by omega) (by omega)
    rw [show decide (ln = ln) = true by simp] at h
    exact h
  have hnq : IntKind.i64.wrap ((n : Int) - 1) = (nv : Int) := by rw [show (n : Int) - 1 = (nv : Int) by omega]; exact IntWalk.i64_in _ (by omega)
  have hvv : ((nv : Int) != (nv : Int)) = false := bne_self_eq_false' _
  have hdd : (d != d) = false := bne_self_eq_false' _
  have hnvb : nv ≤ 60 := by omega
  clear hd2 hlv hlt_ hlj hln hvl hds hnv
  subst hBs
  go_enter Tryd.func6, Tryd.ntmps6
  go_wp2_with fail
  refine (awake_any _ HL.out).mono ?_
  rintro e w1 ⟨rfl, hb1⟩
  have Fg1 := Lib.hid (HG.out.below hb1)
  have low1 := Lib.hid (low0.out.trans (hb1.mono low0.out.size))
  obtain ⟨b, hbe⟩ : ∃ b, w.heap.size = b := ⟨_, rfl⟩
  have HS2 : Hid ((fun w' : World => w'.cell? ⟨b, 0, none⟩ = some (.int .i64 s) ∧ w'.cell? ⟨b, 1, none⟩ = some (.int .i64 d) ∧ w'.cell? ⟨b, 2, none⟩ = some (.int .i64 n)) w1.drew) := by rw [← hbe]; exact ⟨(hb1.cell (p := ⟨_, 0, none⟩) (by simp)).trans HC0.out.1, (hb1.cell (p := ⟨_, 1, none⟩) (by simp)).trans HC0.out.2.1, (hb1.cell (p := ⟨_, 2, none⟩) (by simp)).trans HC0.out.2.2⟩
  clear hb1 HG low0 HL HC0
  go_wp2_with fail
  try rw [hbe]
  refine wp_region_held_drew (S := (fun w' : World => w'.cell? ⟨b, 0, none⟩ = some (.int .i64 s) ∧ w'.cell? ⟨b, 1, none⟩ = some (.int .i64 d) ∧ w'.cell? ⟨b, 2, none⟩ = some (.int .i64 n))) (by kernel_rfl) ?_ ?_
  · exact HS2.out
  intro hHeld
  refine wpAnyH_take (i := 0) (v := ?_) rfl (by kernel_rfl) (by kernel_rfl) (by kernel_rfl) (fun _ _ _ h => h) (Or.inl ⟨by rfl, ?_⟩) (by assumption) ?_
  rotate_left
  · intro w hSw; (try dsimp only at hSw); go_simp; (try (with_reducible rfl))
  try simp only [List.getElem_toArray, List.getElem_cons_succ, List.getElem_cons_zero, Act.put, List.setIfInBounds_toArray, List.set_cons_zero, List.set_cons_succ]
  refine wpAnyH_take (i := 1) (v := ?_) rfl (by kernel_rfl) (by kernel_rfl) (by kernel_rfl) (fun _ _ _ h => h) (Or.inl ⟨by rfl, ?_⟩) (by assumption) ?_
  rotate_left
  · intro w hSw; (try dsimp only at hSw); go_simp; (try (with_reducible rfl))
  try simp only [List.getElem_toArray, List.getElem_cons_succ, List.getElem_cons_zero, Act.put, List.setIfInBounds_toArray, List.set_cons_zero, List.set_cons_succ]
  refine wpAnyH_take (i := 2) (v := ?_) rfl (by kernel_rfl) (by kernel_rfl) (by kernel_rfl) (fun _ _ _ h => h) (Or.inl ⟨by rfl, ?_⟩) (by assumption) ?_
  rotate_left
  · intro w hSw; (try dsimp only at hSw); go_simp; (try (with_reducible rfl))
  try simp only [List.getElem_toArray, List.getElem_cons_succ, List.getElem_cons_zero, Act.put, List.setIfInBounds_toArray, List.set_cons_zero, List.set_cons_succ]
  refine wpAnyH_take (i := 3) (v := ?_) rfl (by kernel_rfl) (by kernel_rfl) (by kernel_rfl) (fun _ _ _ h => h) (Or.inl ⟨by rfl, ?_⟩) (by assumption) ?_
  rotate_left
  · intro w hSw; (try dsimp only at hSw); go_simp; (try (with_reducible rfl))
  try simp only [List.getElem_toArray, List.getElem_cons_succ, List.getElem_cons_zero, Act.put, List.setIfInBounds_toArray, List.set_cons_zero, List.set_cons_succ]
  refine wpAnyH_take (i := 4) (v := ?_) rfl (by kernel_rfl) (by kernel_rfl) (by kernel_rfl) (fun _ _ _ h => h) (Or.inl ⟨by rfl, ?_⟩) (by assumption) ?_
  rotate_left
  · intro w hSw; (try dsimp only at hSw); go_simp; (try (with_reducible rfl))
  try simp only [List.getElem_toArray, List.getElem_cons_succ, List.getElem_cons_zero, Act.put, List.setIfInBounds_toArray, List.set_cons_zero, List.set_cons_succ]
  refine wpAnyH_take (i := 5) (v := ?_) rfl (by kernel_rfl) (by kernel_rfl) (by kernel_rfl) (fun _ _ _ h => h) (Or.inl ⟨by rfl, ?_⟩) (by assumption) ?_
  rotate_left
  · intro w hSw; (try dsimp only at hSw); go_simp; (try (with_reducible rfl))
  try simp only [List.getElem_toArray, List.getElem_cons_succ, List.getElem_cons_zero, Act.put, List.setIfInBounds_toArray, List.set_cons_zero, List.set_cons_succ]
  refine wpAnyH_take (i := 6) (v := ?_) rfl (by kernel_rfl) (by kernel_rfl) (by kernel_rfl) (fun _ _ _ h => h) (Or.inl ⟨by rfl, ?_⟩) (by assumption) ?_
  rotate_left
  · intro w hSw; (try dsimp only at hSw); go_simp; (try (with_reducible rfl))
  try simp only [List.getElem_toArray, List.getElem_cons_succ, List.getElem_cons_zero, Act.put, List.setIfInBounds_toArray, List.set_cons_zero, List.set_cons_succ]
  refine wpAnyH_take (i := 7) (v := ?_) rfl (by kernel_rfl) (by kernel_rfl) (by kernel_rfl) (fun _ _ _ h => h) (Or.inl ⟨by rfl, ?_⟩) (by assumption) ?_
  rotate_left
  · intro w hSw; (try dsimp only at hSw); go_simp; (try (with_reducible rfl))
  try simp only [List.getElem_toArray, List.getElem_cons_succ, List.getElem_cons_zero, Act.put, List.setIfInBounds_toArray, List.set_cons_zero, List.set_cons_succ]
  refine wpAnyH_take (i := 8) (v := ?_) rfl (by kernel_rfl) (by kernel_rfl) (by kernel_rfl) (fun _ _ _ h => h) (Or.inl ⟨by rfl, ?_⟩) (by assumption) ?_
  rotate_left
  · intro w hSw; (try dsimp only at hSw); go_simp; (try (with_reducible rfl))
  try simp only [List.getElem_toArray, List.getElem_cons_succ, List.getElem_cons_zero, Act.put, List.setIfInBounds_toArray, List.set_cons_zero, List.set_cons_succ]
  refine wpAnyH_done (by kernel_rfl) ?_ _
  clear hHeld HS2 hbe
  have hb2 : Below w1.heap.size w1 w1.drew := (Below.refl _ _).drew
  obtain ⟨w2, hw2⟩ : ∃ W, w1.drew = W := ⟨_, rfl⟩
  rw [hw2] at hb2 ⊢
  have Fg2 := Lib.hid (Fg1.out.below hb2)
  have low2 := Lib.hid (low1.out.trans (hb2.mono low1.out.size))
  clear hb2 hw2 Fg1 low1
  go_wp2_with fail
  refine (CWs.out _).mono ?_
  rintro e w' ⟨rfl, rfl⟩
  go_wp2_with fail
  refine (CWd.out _).mono ?_
  rintro e w' ⟨rfl, rfl⟩
  go_wp2_with fail
  refine (CWm.out _).mono ?_
  rintro e w' ⟨rfl, rfl⟩
  go_wp2_with fail
  refine (CGE.out _ Fg2.out).mono ?_
  rintro e w3 ⟨rfl, hb3⟩
  have Fg3 := Lib.hid (Fg2.out.below hb3)
  have low3 := Lib.hid (low2.out.trans (hb3.mono low2.out.size))
  clear hb3 Fg2 low2
  go_wp2_with fail
  refine (CWz.out _).mono ?_
  rintro e w' ⟨rfl, rfl⟩
  go_wp2
  go_loopw [10, 11] (fun l i wr => ∃ j : Nat, j ≤ n ∧ i = .int .i64 j ∧ Hid (wr.ownsRow w3.heap.size 3 1 l j ((lineL s d j).map (Value.int .i64)) ∧ Below w3.heap.size w3 wr)) (fun _ i _ => n - (intOf i).toNat)
  case atStart => exact ⟨0, Nat.zero_le _, rfl, World.ownsRow_nil _ _ _ _, Below.refl _ _⟩
  case round =>
    obtain ⟨j, hj, rfl, HI⟩ := hrel
    by_cases hlt : j < n
    · have hjI : (j : Int) < (n : Int) := by omega
      have hbd := line_bd (i := j) hs hd (by omega)
      have hsu := lineL_succ s d j
      obtain ⟨p, hp⟩ : ∃ p : Int, (j : Int) * d = p := ⟨_, rfl⟩
      rw [hp] at hbd hsu
      have hy1 : IntKind.i64.wrap ((j : Int) * d) = p := by rw [hp]; exact IntWalk.i64_in _ (by omega)
      obtain ⟨q, hq⟩ : ∃ q : Int, s + p = q := ⟨_, rfl⟩
      rw [hq] at hsu
      have hy2 : IntKind.i64.wrap (s + p) = q := by rw [hq]; exact IntWalk.i64_in _ (by omega)
      have HJ := Lib.hid hsu
      have hsz : w3.heap.size ≤ wr.heap.size := HI.out.2.size
      clear hp hq hsu hbd
      go_wp2_with (at_builtin; refine wpList_append_own _ rfl (.tmp 64) (.tmp 70) 38 rfl w3.heap.size 3 i0' _ 1 8 Tryd.underlying38 hi0' hz0' hz1' hz2' rfl (by decide) _ _ _ rfl (HI.out.1.alloc _) ⟨wr.heap.size, 0, none⟩ 1 1 [.int .i64 q] rfl rfl (cell_one_new _ _ _) (by simp [Value.oneCell']) (by unfold maxLen; omega) (by omega) (by simp; omega) ?_)
      intro v' w4 hown' hgrow _
      have HFIN : Hid (w4.ownsRow w3.heap.size 3 1 v' (j + 1) ((lineL s d (j + 1)).map (Value.int .i64)) ∧ Below w3.heap.size w3 w4) := by
        refine ⟨by rw [HJ.out, List.map_append]; exact hown', (HI.out.2.alloc HI.out.2.size _).grown hgrow (by simp; omega) (fun z e => (HI.out.1.lt z e).1)⟩
      clear hown' hgrow hy1 hy2
      go_wp2
      go_roundw
      case rel => exact ⟨j + 1, by omega, by go_num, HFIN.out⟩
      case measure => simp [intOf]; omega
    · obtain rfl : n = j := by omega
      obtain ⟨Al, cl, rfl, _, hrl, nl⟩ := rd_ownN HI.out.1
      obtain ⟨wA, hwA⟩ : ∃ W, W = wr := ⟨_, rfl⟩
      subst hwA
      have hb4 := HI.out.2
      rw [HLNE.out] at hrl
      have NL := Lib.hid nl
      have Fg4 := Lib.hid (Fg3.out.below hb4)
      have low4 := Lib.hid (low3.out.trans (hb4.mono low3.out.size))
      have Fl := Lib.hid hrl
      clear HI hrl hlt hj nl hb4 Fg3 low3
      go_wp2_with fail
      refine (copyInts_any Al n cl ln _ NL.out Fl.out HN.out).mono ?_
      rintro e w5 ⟨⟨v5, rfl, ho5⟩, hb5⟩
      rw [HLNL.out] at ho5
      obtain ⟨g, cap, rfl⟩ : ∃ g cap, v5 = .slice (some ⟨g, 0, none⟩) n cap := by
        rcases ho5.2 with ⟨_, h0⟩ | ⟨g, cap, cur, e, _⟩
        · omega
        · exact ⟨g, cap, e⟩
      have hgw : wA.heap.size ≤ g := (ho5.lt g rfl).1
      have HO1 := Lib.hid ho5
      have HB1 := Lib.hid hb5
      clear ho5 hb5
      go_wp2
      go_loopw [13] (fun i wq => ∃ t : Nat, t ≤ k ∧ i = .int .i64 t ∧ Hid (∀ q, q < t → ((gs : List (Int × Int)).getD q (0, 0)).1 ≠ 0 ∧ ((gs : List (Int × Int)).getD q (0, 0)).2 ≠ (n : Int) - 1) ∧ Hid (wq.ownsRow wA.heap.size 3 1 (.slice (some ⟨g, 0, none⟩) n cap) n ((spL z ln ((gs : List (Int × Int)).take t)).map (Value.int .i64)) ∧ Below wA.heap.size wA wq)) (fun i _ => k - (intOf i).toNat)
      case atStart => exact ⟨0, Nat.zero_le _, rfl, fun q hq => absurd hq (by omega), HO1.out, HB1.out⟩
      case round =>
        obtain ⟨t, ht, rfl, HNE, HI⟩ := hrel
        by_cases htl : t < k
        · have htI : (t : Int) < (k : Int) := by omega
          have ht0 : (0 : Int) ≤ (t : Int) := by omega
          obtain ⟨ag, hag, hagb, hcg⟩ := Fg4.out.2 (by omega)
          obtain ⟨r1, r2⟩ := hcg t htl
          clear hcg
          cases hag
          have hok := gapsF_ok HGF.out (gs.getD t (0, 0)) (getD_mem (by rw [HGL.out]; exact htl))
          have htk : gs.take (t + 1) = gs.take t ++ [gs.getD t (0, 0)] := by
            rw [List.take_succ_eq_append_getElem (by rw [HGL.out]; exact htl)]
            simp [List.getD_eq_getElem?_getD, List.getElem?_eq_getElem (show t < gs.length by rw [HGL.out]; exact htl)]
          obtain ⟨⟨lo', hi'⟩, hxy⟩ : ∃ p, gs.getD t (0, 0) = p := ⟨_, rfl⟩
          have HXY := Lib.hid hxy
          rw [hxy] at r1 r2 hok htk
          dsimp only at r1 r2 hok
          obtain ⟨lo, rfl⟩ : ∃ m : Nat, lo' = (m : Int) := ⟨lo'.toNat, by omega⟩
          obtain ⟨hi, rfl⟩ : ∃ m : Nat, hi' = (m : Int) := ⟨hi'.toNat, by omega⟩
          have h1 : lo ≤ hi := by omega
          have h2 : hi < n := by omega
          have HTK : Hid (spL z ln (gs.take (t + 1)) = bridgeTo (z, z) (spL z ln (gs.take t)) lo hi (hi + 1 - lo)) := by
            show _ = _
            rw [htk, spL_snoc]
            unfold spStep
            simp
          obtain ⟨ak, hak⟩ : ∃ x, ad.add (t * 2) = x := ⟨_, rfl⟩
          have hakb : ak.block < wA.heap.size := by rw [← hak, addBlock]; exact hagb
          rw [hak] at r1 r2
          obtain ⟨ak1, hak1⟩ : ∃ x, ak.add 1 = x := ⟨_, rfl⟩
          have hak1b : ak1.block < wA.heap.size := by rw [← hak1, addBlock]; exact hakb
          rw [hak1] at r2
          have HQ : Hid (∀ W, Below wA.heap.size wA W → W.cell? ak = some (.int .i64 lo) ∧ W.cell? ak1 = some (.int .i64 hi)) := fun W hb => ⟨(hb.cell hakb).trans r1, (hb.cell hak1b).trans r2⟩
          obtain ⟨q1, q2⟩ := HQ.out _ HI.out.2
          have hnm : IntKind.i64.wrap ((n : Int) - 1) = (n : Int) - 1 := IntWalk.i64_in _ (by omega)
          clear hxy hok htk hakb hak1b r1 r2
          by_cases hlo0 : lo = 0
          · subst hlo0
            have lw := Lib.hid (low4.out.trans (HI.out.2.mono low4.out.size))
            go_wp2
            go_ret
            exact ⟨rfl, lw.out⟩
          · have hb1 : ((lo : Int) == 0) = false := by rw [beq_eq_false_iff_ne]; omega
            by_cases hhn : (hi : Int) = (n : Int) - 1
            · have hb2 : ((hi : Int) == (n : Int) - 1) = true := by rw [hhn]; simp
              have lw := Lib.hid (low4.out.trans (HI.out.2.mono low4.out.size))
              clear hhn hlo0
              go_wp2
              go_ret
              exact ⟨rfl, lw.out⟩
            · have hb2 : ((hi : Int) == (n : Int) - 1) = false := by rw [beq_eq_false_iff_ne]; exact hhn
              have HNE2 : Hid (∀ q, q < t + 1 → (gs.getD q (0, 0)).1 ≠ 0 ∧ (gs.getD q (0, 0)).2 ≠ (n : Int) - 1) := fun q hq => by
                rcases (by omega : q < t ∨ q = t) with h | rfl
                · exact HNE.out q h
                · rw [HXY.out]; exact ⟨by show (lo : Int) ≠ 0; omega, hhn⟩
              have HLL : Hid ((spL z ln (gs.take t)).length = n) := by show _ = _; rw [spL_length, HLNL.out]
              obtain ⟨L, hLe⟩ : ∃ L, spL z ln (gs.take t) = L := ⟨_, rfl⟩
              rw [hLe] at HI HTK HLL
              clear hLe HXY hhn hlo0
              go_wp2
              clear q1 q2 hb1 hb2 hnm
              go_loopw [14] (fun i wq => ∃ u : Nat, lo ≤ u ∧ u ≤ hi + 1 ∧ i = .int .i64 u ∧ Hid (wq.ownsRow wA.heap.size 3 1 (.slice (some ⟨g, 0, none⟩) n cap) n ((bridgeTo (z, z) L lo hi (u - lo)).map (Value.int .i64)) ∧ Below wA.heap.size wA wq)) (fun i _ => hi + 1 - (intOf i).toNat)
              case atStart => exact ⟨lo, Nat.le_refl _, by omega, rfl, by show _ ∧ _; rw [Nat.sub_self, bridgeTo_zero]; exact HI.out⟩
              case round =>
                obtain ⟨u, hu1, hu2, rfl, HT⟩ := hrel
                obtain ⟨q1, q2⟩ := HQ.out wr HT.out.2
                by_cases hth : u ≤ hi
                · have hthI : (u : Int) ≤ (hi : Int) := by omega
                  have hset := bridgeTo_set (z, z) L lo hi (u - lo)
                  rw [show lo + (u - lo) = u by omega, show u - lo + 1 = u + 1 - lo by omega, show bridgeAt (z, z) lo hi u = z from lerp_same _ _ _] at hset
                  have HSET := Lib.hid hset
                  have hold := HT.out.1.cellAt u (by omega)
                  have hfz := HT.out.1.frozenAt u
                  rw [List.getElem?_map, List.getElem?_eq_getElem (by rw [bridgeTo_length, HLL.out]; omega)] at hold
                  obtain ⟨o, hoo⟩ : ∃ o, (bridgeTo (z, z) L lo hi (u - lo))[u]'(by rw [bridgeTo_length, HLL.out]; omega) = o := ⟨_, rfl⟩
                  rw [hoo] at hold
                  have htn : (u : Int) < (n : Int) := by omega
                  have hu0 : (0 : Int) ≤ (u : Int) := by omega
                  clear hoo hset
                  have HF : Hid ((wr.setCell ⟨g, u, none⟩ (.int .i64 z)).ownsRow wA.heap.size 3 1 (.slice (some ⟨g, 0, none⟩) n cap) n ((bridgeTo (z, z) L lo hi (u + 1 - lo)).map (Value.int .i64)) ∧ Below wA.heap.size wA (wr.setCell ⟨g, u, none⟩ (.int .i64 z))) := by
                    obtain ⟨k1, k2⟩ := HT.out.1.stored u (.int .i64 z)
                    have e : ((bridgeTo (z, z) L lo hi (u - lo)).map (Value.int .i64)).set u (.int .i64 z) = (bridgeTo (z, z) L lo hi (u + 1 - lo)).map (Value.int .i64) := by rw [← HSET.out, List.map_set]
                    rw [e] at k1
                    exact ⟨k1, HT.out.2.grown k2 HT.out.2.size (fun y e => by cases e; exact hgw)⟩
                  go_wp2
                  go_roundw
                  case rel => exact ⟨u + 1, by omega, by omega, by go_num, HF.out⟩
                  case measure => simp [intOf]; omega
                · have hthI : ¬ (u : Int) ≤ (hi : Int) := by omega
                  obtain rfl : u = hi + 1 := by omega
                  have HF : Hid (wr.ownsRow wA.heap.size 3 1 (.slice (some ⟨g, 0, none⟩) n cap) n ((spL z ln (gs.take (t + 1))).map (Value.int .i64)) ∧ Below wA.heap.size wA wr) := by show _ ∧ _; rw [HTK.out]; exact HT.out
                  clear HT HTK
                  go_wp2
                  go_roundw
                  case rel => exact ⟨t + 1, by omega, by go_num, HNE2.out, HF.out⟩
                  case measure => simp [intOf]; omega
        · obtain rfl : k = t := by omega
          obtain ⟨wB, hwB⟩ : ∃ W, W = wr := ⟨_, rfl⟩
          subst hwB
          have hb6 := HI.out.2
          have hsp := HI.out.1
          rw [List.take_of_length_le (by rw [HGL.out]; exact Nat.le_refl _)] at hsp
          have HST := Lib.hid (straight (s := s) (d := d) (z := z) HGF.out (fun q hq => HNE.out q (by have h := HGL.out; omega)))
          rw [HLNE.out] at HST
          obtain ⟨sp, hspe⟩ : ∃ l, spL z ln (gs : List (Int × Int)) = l := ⟨_, rfl⟩
          rw [hspe] at HST hsp
          have HSPS : Hid (Small sp ∧ sp.length = n) := by show _ ∧ _; rw [← hspe]; exact ⟨spL_small hz _ _ HLS.out, by rw [spL_length, HLNL.out]⟩
          have hrs : RdI wB (some ⟨g, 0, none⟩) n sp := by
            obtain ⟨A', c', e, _, h, _⟩ := rd_ownN hsp
            cases e
            exact h
          have Fg6 := Lib.hid (Fg4.out.below hb6)
          have Fl6 := Lib.hid (Fl.out.below hb6)
          have low6 := Lib.hid (low4.out.trans (hb6.mono low4.out.size))
          have Fs := Lib.hid hrs
          clear hsp hspe hrs HI HNE HO1 HB1 hb6 Fg4 Fl low4
          have CB : Hid (∀ W h ch cm, RdI W (some ⟨g, 0, none⟩) n sp → RdR W h k (gs : List (Int × Int)) → Calls Tryd.prog 27 #[.slice (some ⟨g, 0, none⟩) n ch, .slice (some ⟨h, 0, none⟩) k cm] W (OwnRes W 0 ln)) := fun W h ch cm h1 h2 => by
            have e0 : posE sp = 0 := small_pos (by rw [HSPS.out.2]; omega) HSPS.out.1
            have e1 : brE sp (gs : List (Int × Int)) = 0 := by unfold brE; rw [if_pos e0, HSPS.out.2]; exact HD2.out
            have e2 : brL sp (gs : List (Int × Int)) = ln := by unfold brL; rw [if_pos e1, ← refL_same (by rw [HSPS.out.2]; exact HGF.out)]; exact HST.out
            have h3 := Bridged_any (some ⟨g, 0, none⟩) n ch h k cm sp (gs : List (Int × Int)) W h1 h2 HN.out (by omega)
            rw [e1, e2] at h3
            exact h3
          have ho : Hid ((wB.alloc (.cells #[] 28)).ownsRow wB.heap.size 28 2 (.slice (some ⟨wB.heap.size, 0, none⟩) 0 0) 0 ([] : List Value)) := World.ownsRow_lit wB #[] 0 (Nat.le_refl _) (by unfold maxLen; omega) rfl
          have hlen : Hid ((pairCells gs).length = k * 2) := by show _ = _; rw [pairCells_length, HGL.out]
          have hsrc : Hid (∀ j u, (pairCells gs)[j]? = some u → (wB.alloc (.cells #[] 28)).cell? (ad.add j) = some u) := rng_src Fg6.out _
          have hone : Hid (∀ u ∈ pairCells gs, u.oneCell' = true) := pairCells_one gs
          obtain ⟨news, hnews⟩ : ∃ news, pairCells gs = news := ⟨_, rfl⟩
          rw [hnews] at hlen hsrc hone
          have HNW := Lib.hid hnews
          clear hnews
          go_wp2_with (at_builtin; refine wpList_append_own _ rfl (.tmp 116) (.tmp 117) 65 rfl wB.heap.size 28 i0 _ 2 16 Tryd.underlying65 hi_ hz0 hz1 hz2 rfl (by decide) _ _ _ rfl ho.out ad k cB news rfl hlen.out hsrc.out hone.out (by unfold maxLen; omega) (by omega) (by simp) ?_)
          intro v w7 ho2 hg2 hnil
          have hb7 : Below wB.heap.size wB w7 := ((Below.refl _ _).alloc (Nat.le_refl _) _).grown hg2 (by simp) (fun g hg => (ho.out.lt g hg).1)
          have hv : ∃ g cap, v = .slice (some ⟨g, 0, none⟩) k cap := by
            have h2 := ho2.2
            rcases h2 with ⟨e, h0⟩ | ⟨g, cap, cur, e, _⟩
            · exact absurd e hnil
            · exact ⟨g, cap, by rw [e]⟩
          obtain ⟨gg, capg, rfl⟩ := hv
          have FG : Hid (RdR w7 gg k gs) := by
            refine rdR_of_own (base := wB.heap.size) (t := 28) (cap := capg) ?_ HGL.out
            rw [HNW.out]
            simpa using ho2
          have Fg7 := Lib.hid (Fg6.out.below hb7)
          have Fl7 := Lib.hid (Fl6.out.below hb7)
          have Fs7 := Lib.hid (Fs.out.below hb7)
          have low7 := Lib.hid (low6.out.trans (hb7.mono low6.out.size))
          clear ho ho2 hg2 hnil hlen hsrc hone HNW hb7 Fg6 Fl6 Fs low6
          go_wp2_with fail
          refine (CB.out _ _ _ _ Fs7.out FG.out).mono ?_
          rintro e w8 ⟨⟨v8, rfl, ho8⟩, hb8⟩
          have Fl8 := Lib.hid (Fl7.out.below hb8)
          have low8 := Lib.hid (low7.out.trans (hb8.mono low7.out.size))
          rw [HLNL.out] at ho8
          obtain ⟨Ay, cy, rfl, _, hry, ny⟩ := rd_ownN ho8
          have Fy := Lib.hid hry
          clear hb8 Fg7 Fl7 Fs7 low7 ho8 hry ny FG
          go_wp2_with fail
          refine (copyInts_any Al n cl ln _ NL.out Fl8.out HN.out).mono ?_
          rintro e w9 ⟨⟨v9, rfl, ho9⟩, hb9⟩
          have Fl9 := Lib.hid (Fl8.out.below hb9)
          have Fy9 := Lib.hid (Fy.out.below hb9)
          have low9 := Lib.hid (low8.out.trans (hb9.mono low8.out.size))
          rw [HLNL.out] at ho9
          obtain ⟨Aa, ca, rfl, _, hra, na⟩ := rd_ownN ho9
          have Fa := Lib.hid hra
          clear hb9 Fl8 Fy low8 ho9 hra na
          go_wp2_with fail
          refine (CV.out _ _ _ Fa.out).mono ?_
          rintro e w10 ⟨⟨v10, rfl, ho10⟩, hb10⟩
          have Fl10 := Lib.hid (Fl9.out.below hb10)
          have Fy10 := Lib.hid (Fy9.out.below hb10)
          have low10 := Lib.hid (low9.out.trans (hb10.mono low9.out.size))
          rw [HVL.out.1] at ho10
          obtain ⟨Ae, ce, rfl, _, hre, ne⟩ := rd_ownN ho10
          have Fe := Lib.hid hre
          clear hb10 Fl9 Fy9 Fa low9 ho10 hre ne
          go_wp2_with fail
          refine (copyInts_any Al n cl ln _ NL.out Fl10.out HN.out).mono ?_
          rintro e w11 ⟨⟨v11, rfl, ho11⟩, hb11⟩
          have Fl11 := Lib.hid (Fl10.out.below hb11)
          have Fy11 := Lib.hid (Fy10.out.below hb11)
          have Fe11 := Lib.hid (Fe.out.below hb11)
          have low11 := Lib.hid (low10.out.trans (hb11.mono low10.out.size))
          rw [HLNL.out] at ho11
          obtain ⟨Ac, cc, rfl, _, hrc, nc⟩ := rd_ownN ho11
          have Fc := Lib.hid hrc
          clear hb11 Fl10 Fy10 Fe low10 ho11 hrc nc
          go_wp2_with fail
          refine (CSZ.out _).mono ?_
          rintro e w' ⟨rfl, rfl⟩
          go_wp2_with fail
          refine (CJ.out _ _ _ Fc.out).mono ?_
          rintro e w12 ⟨⟨v12, rfl, ho12⟩, hb12⟩
          have Fl12 := Lib.hid (Fl11.out.below hb12)
          have Fy12 := Lib.hid (Fy11.out.below hb12)
          have Fe12 := Lib.hid (Fe11.out.below hb12)
          have low12 := Lib.hid (low11.out.trans (hb12.mono low11.out.size))
          obtain ⟨Aj, cj, rfl, _, hrj, nj⟩ := rd_ownN ho12
          clear hb12 Fl11 Fy11 Fe11 Fc low11 ho12 hrj nj
          go_wp2_with fail
          refine (CI.out _ _ _ _ _ Fy12.out Fl12.out).mono ?_
          rintro e w' ⟨rfl, kk, rfl⟩
          have hb13 : Below w12.heap.size w12 (w12.drewN kk) := belowDrewN (Below.refl _ _) kk
          obtain ⟨w13, hw13⟩ : ∃ W, w12.drewN kk = W := ⟨_, rfl⟩
          rw [hw13] at hb13 ⊢
          have Fe13 := Lib.hid (Fe12.out.below hb13)
          have low13 := Lib.hid (low12.out.trans (hb13.mono low12.out.size))
          clear hb13 hw13 Fl12 Fy12 Fe12 low12
          go_wp2
          go_loop [21] (fun i => ∃ j : Nat, j ≤ nv ∧ i = .int .i64 j) (fun i => nv - (intOf i).toNat)
          case atStart => exact ⟨0, Nat.zero_le _, rfl⟩
          case round =>
            obtain ⟨j, hj, rfl⟩ := hrel
            by_cases hlt : j < nv
            · have hjI : (j : Int) < (nv : Int) := by omega
              have hj0 : (0 : Int) ≤ (j : Int) := by omega
              obtain ⟨av, hav, _, hcv⟩ := Fe13.out.2 (by omega)
              have y1 := hcv j hlt
              clear hcv
              cases hav
              rw [HVL.out.2 j hlt] at y1
              go_wp2
              go_round
              case rel => exact ⟨j + 1, by omega, by go_num⟩
              case measure => simp [intOf]; omega
            · obtain rfl : nv = j := by omega
              go_wp2
              go_ret
              exact ⟨rfl, low13.out⟩

end Go.Proofs.YtnmfeonagigkeaaDoor

