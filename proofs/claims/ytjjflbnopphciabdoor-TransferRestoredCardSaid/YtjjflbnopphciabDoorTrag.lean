import Derived.Test.YtjjflbnopphciabDoorTraf
import Derived.Test.YtjjflbnopphciabDoorTrac
namespace Go.Proofs.YtjjflbnopphciabDoor
open Go.RowKit

theorem bk4 {W : World} {g : Nat} {t : TypeId} {a b c d : Value} (h : Bk W g t #[a, b, c, d]) : W.cell? ⟨g, 0, none⟩ = some a ∧ W.cell? ⟨g, 1, none⟩ = some b ∧ W.cell? ⟨g, 2, none⟩ = some c ∧ W.cell? ⟨g, 3, none⟩ = some d :=
  ⟨by rw [h.cell]; rfl, by rw [h.cell]; rfl, by rw [h.cell]; rfl, by rw [h.cell]; rfl⟩
/-- The first half of a group's error: its shape and its lists. -/
def grp1E (n m : Nat) (ld lp : List Int) : Int := firstE [whenE (decide (n = 0) || decide (m = 0)) 10, whenE (decide (12 < n) || decide (4 < m)) 8, lostE n (-1) ld, lostE m (-1) lp]
/-- The error of a group. -/
def grpE (n m : Nat) (ds ps : List (List Int)) (ld lp : List Int) : Int :=
  if grp1E n m ld lp = 0 then firstE [rowsE ds (-32767) 32767 (kepL ld n), rowsE ps 0 65536 (kepL lp m)] else grp1E n m ld lp
theorem grp1_shape {n m : Nat} {ld lp : List Int} (h : grp1E n m ld lp = 0) : 1 ≤ n ∧ n ≤ 12 ∧ 1 ≤ m ∧ m ≤ 4 ∧ lostE n (-1) ld = 0 ∧ lostE m (-1) lp = 0 := by
  unfold grp1E at h
  by_cases h1 : (decide (n = 0) || decide (m = 0)) = true
  · rw [h1] at h; simp [firstE, whenE] at h
  · have h1' : (decide (n = 0) || decide (m = 0)) = false := by simpa using h1
    by_cases h2 : (decide (12 < n) || decide (4 < m)) = true
    · rw [h1', h2] at h; simp [firstE, whenE] at h
    · have h2' : (decide (12 < n) || decide (4 < m)) = false := by simpa using h2
      rw [h1', h2'] at h
      have e1 : whenE false 10 = 0 := rfl
      have e2 : whenE false 8 = 0 := rfl
      simp only [firstE, e1, e2, if_true] at h
      have g1 := Bool.or_eq_false_iff.1 h1'
      have g2 := Bool.or_eq_false_iff.1 h2'
      simp only [decide_eq_false_iff_not] at g1 g2
      refine ⟨by omega, by omega, by omega, by omega, ?_, ?_⟩
      · by_cases h3 : lostE n (-1) ld = 0
        · exact h3
        · rw [if_neg h3] at h; exact absurd h h3
      · by_cases h3 : lostE n (-1) ld = 0
        · rw [if_pos h3] at h
          by_cases h4 : lostE m (-1) lp = 0
          · exact h4
          · rw [if_neg h4] at h; exact absurd h h4
        · rw [if_neg h3] at h; exact absurd h h3
set_option maxRecDepth 100000 in
set_option maxHeartbeats 8000000 in
theorem cgr_zero (A B C D : Option Addr) (n m l r ca cb cc cd : Nat) (ds ps : List (List Int)) (ld lp : List Int) (w : World) (hA : RdD w A n ds) (hB : RdD w B m ps) (hC : RdI w C l ld) (hD : RdI w D r lp) (hn : n ≤ 1000) (hm : m ≤ 1000) (hl : l ≤ 1000) (hr : r ≤ 1000) (h0 : n = 0) :
    Calls Tryd.prog 15 #[.agg #[.slice A n ca, .slice B m cb, .slice C l cc, .slice D r cd]] w fun e w' => e = .returned (.int .i64 (grpE n m ds ps ld lp)) ∧ Below w.heap.size w w' := by
  have hE : grp1E n m ld lp ≠ 0 := fun h => by have := grp1_shape h; omega
  have hn0 : ((n : Int) == 0) = true := by simp; try omega
  have hn12 : decide ((12 : Int) < (n : Int)) = false := by simp; omega
  have hn12n : decide (12 < n) = false := by simp; omega
  have e1 : (decide (n = 0) || decide (m = 0)) = true := by rw [decide_eq_true (show n = 0 by omega)]; rfl
  have e2 : (decide (12 < n) || decide (4 < m)) = (decide ((4 : Int) < (m : Int))) := by rw [decide_eq_false (show ¬ 12 < n by omega), Bool.false_or]; exact decide_eq_decide.2 (by omega)
  have HF : Hid (firstE [whenE true 10, whenE (decide ((4 : Int) < (m : Int))) 8, lostE n (-1) ld, lostE m (-1) lp] = grp1E n m ld lp) := by
    show _ = _
    unfold grp1E
    rw [e1, e2]
  obtain ⟨w1, hw1⟩ : ∃ W, w.alloc (.cells #[.slice A n ca, .slice B m cb, .slice C l cc, .slice D r cd] 33) = W := ⟨_, rfl⟩
  have b1 : Below w.heap.size w w1 := by rw [← hw1]; exact (Below.refl _ _).alloc (Nat.le_refl _) _
  have HBK : Hid (Bk w1 w.heap.size 33 #[.slice A n ca, .slice B m cb, .slice C l cc, .slice D r cd]) := by show Bk _ _ _ _; rw [← hw1]; exact Bk.new _ _ _
  have HB1 := Lib.hid b1
  have HW1 := Lib.hid hw1
  have KEEP : Hid (∀ W, Below w1.heap.size w1 W → W.cell? ⟨w.heap.size, 0, none⟩ = some (.slice A n ca) ∧ W.cell? ⟨w.heap.size, 1, none⟩ = some (.slice B m cb) ∧ W.cell? ⟨w.heap.size, 2, none⟩ = some (.slice C l cc) ∧ W.cell? ⟨w.heap.size, 3, none⟩ = some (.slice D r cd)) := fun W hW => bk4 (HBK.out.below hW HBK.out.lt)
  have RC : Hid (∀ W, Below w1.heap.size w1 W → RdI W C l ld) := fun W hW => (hC.below HB1.out).below hW
  have RD : Hid (∀ W, Below w1.heap.size w1 W → RdI W D r lp) := fun W hW => (hD.below HB1.out).below hW
  have RA : Hid (∀ W, Below w1.heap.size w1 W → RdD W A n ds) := fun W hW => (hA.below HB1.out).below hW
  have RB : Hid (∀ W, Below w1.heap.size w1 W → RdD W B m ps) := fun W hW => (hB.below HB1.out).below hW
  have CAS : Hid (∀ (X : Option Addr) (q c : Nat) (xs : List Int) (k : Nat) (W : World), (∀ V, Below w1.heap.size w1 V → RdI V X q xs) → q ≤ 1000000 → Below w1.heap.size w1 W → Calls Tryd.prog 38 #[.slice X q c, .func (Fn.func 64) #[] #[.pointer (some ⟨W.heap.size, 0, none⟩), .pointer (some ⟨W.heap.size + 1, 0, none⟩)]] ((W.alloc (.cells #[.int .i64 (k : Int)] 3)).alloc (.cells #[.int .i64 (-1)] 3))
      fun e w' => e = .returned (.int .i64 (lostE k (-1) xs)) ∧ Below w1.heap.size w1 w') := fun X q c xs k W hX hq hW => by
    have hb2 : Below w1.heap.size w1 ((W.alloc (.cells #[.int .i64 (k : Int)] 3)).alloc (.cells #[.int .i64 (-1)] 3)) := (hW.alloc hW.size _).alloc (by have := hW.size; simp; omega) _
    refine (checkEachAsc_any X q c xs k (-1) W.heap.size (W.heap.size + 1) _ (fun V hV => hX V (hb2.trans (hV.mono (by have := hW.size; omega)))) hq ?_ ?_ (by omega)).mono ?_
    · rw [((Bk.new W 3 #[.int .i64 (k : Int)]).alloc _).cell]; rfl
    · simpa using Bk.new (W.alloc (.cells #[.int .i64 (k : Int)] 3)) 3 #[.int .i64 (-1)]
    · rintro e w' ⟨he, hb⟩
      exact ⟨he, hb2.trans (hb.mono (by have := hW.size; omega))⟩
  have B1 : Hid (Below w1.heap.size w1 w1.drew) := (Below.refl _ _).drew
  clear b1 hw1 hA hB hC hD e1 e2 h0
  go_enter Tryd.func15, Tryd.ntmps15
  go_upto_region 1 with fail
  rw [show w.alloc (.cells #[.slice A n ca, .slice B m cb, .slice C l cc, .slice D r cd] 33) = w1 from HW1.out]
  refine wp_region_held_drew (S := (fun w' : World => w'.cell? ⟨w.heap.size, 0, none⟩ = some (.slice A n ca) ∧ w'.cell? ⟨w.heap.size, 1, none⟩ = some (.slice B m cb) ∧ w'.cell? ⟨w.heap.size, 2, none⟩ = some (.slice C l cc) ∧ w'.cell? ⟨w.heap.size, 3, none⟩ = some (.slice D r cd))) (by kernel_rfl) (KEEP.out _ (Below.refl _ _).drew) ?_
  intro hHeld
  refine wpAnyH_take (i := 0) (v := ?_) rfl (by kernel_rfl) (by kernel_rfl) (by kernel_rfl) (fun _ _ _ h => h) (Or.inl ⟨by rfl, ?_⟩) (by assumption) ?_
  rotate_left
  · intro w hSw; (try dsimp only at hSw); go_simp; (try (with_reducible rfl))
  try simp only [List.getElem_toArray, List.getElem_cons_succ, List.getElem_cons_zero, Act.put, List.setIfInBounds_toArray, List.set_cons_zero, List.set_cons_succ]
  refine wpAnyH_take (i := 1) (v := ?_) rfl (by kernel_rfl) (by kernel_rfl) (by kernel_rfl) (fun _ _ _ h => h) (Or.inl ⟨by rfl, ?_⟩) (by assumption) ?_
  rotate_left
  · intro w hSw; (try dsimp only at hSw); go_simp; (try (with_reducible rfl))
  try simp only [List.getElem_toArray, List.getElem_cons_succ, List.getElem_cons_zero, Act.put, List.setIfInBounds_toArray, List.set_cons_zero, List.set_cons_succ]
  refine wpAnyH_take (i := 2) (v := ?_) rfl (by kernel_rfl) (by kernel_rfl) (by kernel_rfl) (fun _ _ _ h => h) (Or.inl ⟨by rfl, ?_⟩) (by assumption) ?_
  rotate_left
  · intro w hSw; (try dsimp only at hSw); go_simp; (try (with_reducible rfl))
  try simp only [List.getElem_toArray, List.getElem_cons_succ, List.getElem_cons_zero, Act.put, List.setIfInBounds_toArray, List.set_cons_zero, List.set_cons_succ]
  refine wpAnyH_take (i := 3) (v := ?_) rfl (by kernel_rfl) (by kernel_rfl) (by kernel_rfl) (fun _ _ _ h => h) (Or.inl ⟨by rfl, ?_⟩) (by assumption) ?_
  rotate_left
  · intro w hSw; (try dsimp only at hSw); go_simp; (try (with_reducible rfl))
  try simp only [List.getElem_toArray, List.getElem_cons_succ, List.getElem_cons_zero, Act.put, List.setIfInBounds_toArray, List.set_cons_zero, List.set_cons_succ]
  first | rw [hn0] | skip
  refine wpAnyH_take (i := 4) (v := ?_) rfl (by kernel_rfl) (by kernel_rfl) (by kernel_rfl) (fun _ _ _ h => h) (Or.inl ⟨by rfl, ?_⟩) (by assumption) ?_
  rotate_left
  · intro w hSw; (try dsimp only at hSw); go_simp; (try (with_reducible rfl))
  try simp only [List.getElem_toArray, List.getElem_cons_succ, List.getElem_cons_zero, Act.put, List.setIfInBounds_toArray, List.set_cons_zero, List.set_cons_succ]
  refine wpAnyH_take (i := 5) (v := undef) rfl (by kernel_rfl) (by kernel_rfl) (by kernel_rfl) (fun _ _ _ h => h) (Or.inr ⟨by rfl, rfl⟩) (by assumption) ?_
  try simp only [List.getElem_toArray, List.getElem_cons_succ, List.getElem_cons_zero, Act.put, List.setIfInBounds_toArray, List.set_cons_zero, List.set_cons_succ]
  refine wpAnyH_take (i := 6) (v := undef) rfl (by kernel_rfl) (by kernel_rfl) (by kernel_rfl) (fun _ _ _ h => h) (Or.inr ⟨by rfl, rfl⟩) (by assumption) ?_
  try simp only [List.getElem_toArray, List.getElem_cons_succ, List.getElem_cons_zero, Act.put, List.setIfInBounds_toArray, List.set_cons_zero, List.set_cons_succ]
  refine wpAnyH_take (i := 7) (v := undef) rfl (by kernel_rfl) (by kernel_rfl) (by kernel_rfl) (fun _ _ _ h => h) (Or.inr ⟨by rfl, rfl⟩) (by assumption) ?_
  try simp only [List.getElem_toArray, List.getElem_cons_succ, List.getElem_cons_zero, Act.put, List.setIfInBounds_toArray, List.set_cons_zero, List.set_cons_succ]
  refine wpAnyH_take (i := 8) (v := undef) rfl (by kernel_rfl) (by kernel_rfl) (by kernel_rfl) (fun _ _ _ h => h) (Or.inr ⟨by rfl, rfl⟩) (by assumption) ?_
  try simp only [List.getElem_toArray, List.getElem_cons_succ, List.getElem_cons_zero, Act.put, List.setIfInBounds_toArray, List.set_cons_zero, List.set_cons_succ]
  refine wpAnyH_take (i := 9) (v := ?_) rfl (by kernel_rfl) (by kernel_rfl) (by kernel_rfl) (fun _ _ _ h => h) (Or.inl ⟨by rfl, ?_⟩) (by assumption) ?_
  rotate_left
  · intro w hSw; (try dsimp only at hSw); go_simp; (try (with_reducible rfl))
  try simp only [List.getElem_toArray, List.getElem_cons_succ, List.getElem_cons_zero, Act.put, List.setIfInBounds_toArray, List.set_cons_zero, List.set_cons_succ]
  refine wpAnyH_take (i := 11) (v := ?_) rfl (by kernel_rfl) (by kernel_rfl) (by kernel_rfl) (fun _ _ _ h => h) (Or.inl ⟨by rfl, ?_⟩) (by assumption) ?_
  rotate_left
  · intro w hSw; (try dsimp only at hSw); go_simp; (try (with_reducible rfl))
  try simp only [List.getElem_toArray, List.getElem_cons_succ, List.getElem_cons_zero, Act.put, List.setIfInBounds_toArray, List.set_cons_zero, List.set_cons_succ]
  refine wpAnyH_take (i := 12) (v := ?_) rfl (by kernel_rfl) (by kernel_rfl) (by kernel_rfl) (fun _ _ _ h => h) (Or.inl ⟨by rfl, ?_⟩) (by assumption) ?_
  rotate_left
  · intro w hSw; (try dsimp only at hSw); go_simp; (try (with_reducible rfl))
  try simp only [List.getElem_toArray, List.getElem_cons_succ, List.getElem_cons_zero, Act.put, List.setIfInBounds_toArray, List.set_cons_zero, List.set_cons_succ]
  refine wpAnyH_take (i := 13) (v := ?_) rfl (by kernel_rfl) (by kernel_rfl) (by kernel_rfl) (fun _ _ _ h => h) (Or.inl ⟨by rfl, ?_⟩) (by assumption) ?_
  rotate_left
  · intro w hSw; (try dsimp only at hSw); go_simp; (try (with_reducible rfl))
  try simp only [List.getElem_toArray, List.getElem_cons_succ, List.getElem_cons_zero, Act.put, List.setIfInBounds_toArray, List.set_cons_zero, List.set_cons_succ]
  refine wpAnyH_take (i := 14) (v := ?_) rfl (by kernel_rfl) (by kernel_rfl) (by kernel_rfl) (fun _ _ _ h => h) (Or.inl ⟨by rfl, ?_⟩) (by assumption) ?_
  rotate_left
  · intro w hSw; (try dsimp only at hSw); go_simp; (try (with_reducible rfl))
  try simp only [List.getElem_toArray, List.getElem_cons_succ, List.getElem_cons_zero, Act.put, List.setIfInBounds_toArray, List.set_cons_zero, List.set_cons_succ]
  refine wpAnyH_take (i := 22) (v := ?_) rfl (by kernel_rfl) (by kernel_rfl) (by kernel_rfl) (fun _ _ _ h => h) (Or.inl ⟨by rfl, ?_⟩) (by assumption) ?_
  rotate_left
  · intro w hSw; (try dsimp only at hSw); go_simp; (try (with_reducible rfl))
  try simp only [List.getElem_toArray, List.getElem_cons_succ, List.getElem_cons_zero, Act.put, List.setIfInBounds_toArray, List.set_cons_zero, List.set_cons_succ]
  refine wpAnyH_take (i := 23) (v := ?_) rfl (by kernel_rfl) (by kernel_rfl) (by kernel_rfl) (fun _ _ _ h => h) (Or.inl ⟨by rfl, ?_⟩) (by assumption) ?_
  rotate_left
  · intro w hSw; (try dsimp only at hSw); go_simp; (try (with_reducible rfl))
  try simp only [List.getElem_toArray, List.getElem_cons_succ, List.getElem_cons_zero, Act.put, List.setIfInBounds_toArray, List.set_cons_zero, List.set_cons_succ]
  refine wpAnyH_take (i := 24) (v := ?_) rfl (by kernel_rfl) (by kernel_rfl) (by kernel_rfl) (fun _ _ _ h => h) (Or.inl ⟨by rfl, ?_⟩) (by assumption) ?_
  rotate_left
  · intro w hSw; (try dsimp only at hSw); go_simp; (try (with_reducible rfl))
  try simp only [List.getElem_toArray, List.getElem_cons_succ, List.getElem_cons_zero, Act.put, List.setIfInBounds_toArray, List.set_cons_zero, List.set_cons_succ]
  refine wpAnyH_take (i := 25) (v := ?_) rfl (by kernel_rfl) (by kernel_rfl) (by kernel_rfl) (fun _ _ _ h => h) (Or.inl ⟨by rfl, ?_⟩) (by assumption) ?_
  rotate_left
  · intro w hSw; (try dsimp only at hSw); go_simp; (try (with_reducible rfl))
  try simp only [List.getElem_toArray, List.getElem_cons_succ, List.getElem_cons_zero, Act.put, List.setIfInBounds_toArray, List.set_cons_zero, List.set_cons_succ]
  refine wpAnyH_take (i := 26) (v := ?_) rfl (by kernel_rfl) (by kernel_rfl) (by kernel_rfl) (fun _ _ _ h => h) (Or.inl ⟨by rfl, ?_⟩) (by assumption) ?_
  rotate_left
  · intro w hSw; (try dsimp only at hSw); go_simp; (try (with_reducible rfl))
  try simp only [List.getElem_toArray, List.getElem_cons_succ, List.getElem_cons_zero, Act.put, List.setIfInBounds_toArray, List.set_cons_zero, List.set_cons_succ]
  refine wpAnyH_take (i := 29) (v := ?_) rfl (by kernel_rfl) (by kernel_rfl) (by kernel_rfl) (fun _ _ _ h => h) (Or.inl ⟨by rfl, ?_⟩) (by assumption) ?_
  rotate_left
  · intro w hSw; (try dsimp only at hSw); go_simp; (try (with_reducible rfl))
  try simp only [List.getElem_toArray, List.getElem_cons_succ, List.getElem_cons_zero, Act.put, List.setIfInBounds_toArray, List.set_cons_zero, List.set_cons_succ]
  refine wpAnyH_take (i := 30) (v := ?_) rfl (by kernel_rfl) (by kernel_rfl) (by kernel_rfl) (fun _ _ _ h => h) (Or.inl ⟨by rfl, ?_⟩) (by assumption) ?_
  rotate_left
  · intro w hSw; (try dsimp only at hSw); go_simp; (try (with_reducible rfl))
  try simp only [List.getElem_toArray, List.getElem_cons_succ, List.getElem_cons_zero, Act.put, List.setIfInBounds_toArray, List.set_cons_zero, List.set_cons_succ]
  refine wpAnyH_take (i := 31) (v := ?_) rfl (by kernel_rfl) (by kernel_rfl) (by kernel_rfl) (fun _ _ _ h => h) (Or.inl ⟨by rfl, ?_⟩) (by assumption) ?_
  rotate_left
  · intro w hSw; (try dsimp only at hSw); go_simp; (try (with_reducible rfl))
  try simp only [List.getElem_toArray, List.getElem_cons_succ, List.getElem_cons_zero, Act.put, List.setIfInBounds_toArray, List.set_cons_zero, List.set_cons_succ]
  refine wpAnyH_take (i := 32) (v := ?_) rfl (by kernel_rfl) (by kernel_rfl) (by kernel_rfl) (fun _ _ _ h => h) (Or.inl ⟨by rfl, ?_⟩) (by assumption) ?_
  rotate_left
  · intro w hSw; (try dsimp only at hSw); go_simp; (try (with_reducible rfl))
  try simp only [List.getElem_toArray, List.getElem_cons_succ, List.getElem_cons_zero, Act.put, List.setIfInBounds_toArray, List.set_cons_zero, List.set_cons_succ]
  refine wpAnyH_take (i := 33) (v := ?_) rfl (by kernel_rfl) (by kernel_rfl) (by kernel_rfl) (fun _ _ _ h => h) (Or.inl ⟨by rfl, ?_⟩) (by assumption) ?_
  rotate_left
  · intro w hSw; (try dsimp only at hSw); go_simp; (try (with_reducible rfl))
  try simp only [List.getElem_toArray, List.getElem_cons_succ, List.getElem_cons_zero, Act.put, List.setIfInBounds_toArray, List.set_cons_zero, List.set_cons_succ]
  refine wpAnyH_ready (rs := [10]) (by kernel_rfl) (by simp) ?_
  refine AllReadyH.cons rfl (fun K hK => ?_) AllReadyH.nil
  go_simp
  go_at_call 25
  refine (when_any _ _ _).mono ?_
  rintro e w' ⟨rfl, rfl⟩
  go_wp2_with fail
  refine hK.out _ _ (KEEP.out _ B1.out) (fun hHeld => ?_)
  clear hK K
  try simp only [List.getElem_toArray, List.getElem_cons_succ, List.getElem_cons_zero, Act.put, List.setIfInBounds_toArray, List.set_cons_zero, List.set_cons_succ]
  first | rw [hn12] | rw [hn12n] | skip
  refine wpAnyH_take (i := 15) (v := ?_) rfl (by kernel_rfl) (by kernel_rfl) (by kernel_rfl) (fun _ _ _ h => h) (Or.inl ⟨by rfl, ?_⟩) (by assumption) ?_
  rotate_left
  · intro w hSw; (try dsimp only at hSw); go_simp; (try (with_reducible rfl))
  try simp only [List.getElem_toArray, List.getElem_cons_succ, List.getElem_cons_zero, Act.put, List.setIfInBounds_toArray, List.set_cons_zero, List.set_cons_succ]
  refine wpAnyH_take (i := 16) (v := ?_) rfl (by kernel_rfl) (by kernel_rfl) (by kernel_rfl) (fun _ _ _ h => h) (Or.inl ⟨by rfl, ?_⟩) (by assumption) ?_
  rotate_left
  · intro w hSw; (try dsimp only at hSw); go_simp; (try (with_reducible rfl))
  try simp only [List.getElem_toArray, List.getElem_cons_succ, List.getElem_cons_zero, Act.put, List.setIfInBounds_toArray, List.set_cons_zero, List.set_cons_succ]
  refine wpAnyH_take (i := 17) (v := ?_) rfl (by kernel_rfl) (by kernel_rfl) (by kernel_rfl) (fun _ _ _ h => h) (Or.inl ⟨by rfl, ?_⟩) (by assumption) ?_
  rotate_left
  · intro w hSw; (try dsimp only at hSw); go_simp; (try (with_reducible rfl))
  try simp only [List.getElem_toArray, List.getElem_cons_succ, List.getElem_cons_zero, Act.put, List.setIfInBounds_toArray, List.set_cons_zero, List.set_cons_succ]
  refine wpAnyH_take (i := 18) (v := ?_) rfl (by kernel_rfl) (by kernel_rfl) (by kernel_rfl) (fun _ _ _ h => h) (Or.inl ⟨by rfl, ?_⟩) (by assumption) ?_
  rotate_left
  · intro w hSw; (try dsimp only at hSw); go_simp; (try (with_reducible rfl))
  try simp only [List.getElem_toArray, List.getElem_cons_succ, List.getElem_cons_zero, Act.put, List.setIfInBounds_toArray, List.set_cons_zero, List.set_cons_succ]
  refine wpAnyH_take (i := 19) (v := ?_) rfl (by kernel_rfl) (by kernel_rfl) (by kernel_rfl) (fun _ _ _ h => h) (Or.inl ⟨by rfl, ?_⟩) (by assumption) ?_
  rotate_left
  · intro w hSw; (try dsimp only at hSw); go_simp; (try (with_reducible rfl))
  try simp only [List.getElem_toArray, List.getElem_cons_succ, List.getElem_cons_zero, Act.put, List.setIfInBounds_toArray, List.set_cons_zero, List.set_cons_succ]
  refine wpAnyH_take (i := 20) (v := ?_) rfl (by kernel_rfl) (by kernel_rfl) (by kernel_rfl) (fun _ _ _ h => h) (Or.inl ⟨by rfl, ?_⟩) (by assumption) ?_
  rotate_left
  · intro w hSw; (try dsimp only at hSw); go_simp; (try (with_reducible rfl))
  try simp only [List.getElem_toArray, List.getElem_cons_succ, List.getElem_cons_zero, Act.put, List.setIfInBounds_toArray, List.set_cons_zero, List.set_cons_succ]
  refine wpAnyH_ready (rs := [21]) (by kernel_rfl) (by simp) ?_
  refine AllReadyH.cons rfl (fun K hK => ?_) AllReadyH.nil
  go_simp
  go_at_call 25
  refine (when_any _ _ _).mono ?_
  rintro e w' ⟨rfl, rfl⟩
  go_wp2_with fail
  refine hK.out _ _ (KEEP.out _ B1.out) (fun hHeld => ?_)
  clear hK K
  try simp only [List.getElem_toArray, List.getElem_cons_succ, List.getElem_cons_zero, Act.put, List.setIfInBounds_toArray, List.set_cons_zero, List.set_cons_succ]
  refine wpAnyH_ready (rs := [27]) (by kernel_rfl) (by simp) ?_
  refine AllReadyH.cons rfl (fun K hK => ?_) AllReadyH.nil
  go_simp
  go_at_call 39
  refine (ascBelow_any _ _).mono ?_
  rintro e w' ⟨rfl, rfl⟩
  go_wp2_with fail
  refine hK.out _ _ (KEEP.out _ ((B1.out.alloc B1.out.size _).alloc (by have := B1.out.size; first | omega | (simp; done) | (simp; omega)) _)) (fun hHeld => ?_)
  clear hK K
  try simp only [List.getElem_toArray, List.getElem_cons_succ, List.getElem_cons_zero, Act.put, List.setIfInBounds_toArray, List.set_cons_zero, List.set_cons_succ]
  refine wpAnyH_ready (rs := [28]) (by kernel_rfl) (by simp) ?_
  refine AllReadyH.cons rfl (fun K hK => ?_) AllReadyH.nil
  go_simp
  go_at_call 38
  refine (CAS.out C l _ ld n _ RC.out (by omega) B1.out).mono ?_
  rintro e w3 ⟨rfl, hb3⟩
  have B3 := Lib.hid hb3
  clear hb3
  go_wp2_with fail
  refine hK.out _ _ (KEEP.out _ B3.out) (fun hHeld => ?_)
  clear hK K
  try simp only [List.getElem_toArray, List.getElem_cons_succ, List.getElem_cons_zero, Act.put, List.setIfInBounds_toArray, List.set_cons_zero, List.set_cons_succ]
  refine wpAnyH_ready (rs := [34]) (by kernel_rfl) (by simp) ?_
  refine AllReadyH.cons rfl (fun K hK => ?_) AllReadyH.nil
  go_simp
  go_at_call 39
  refine (ascBelow_any _ _).mono ?_
  rintro e w' ⟨rfl, rfl⟩
  go_wp2_with fail
  refine hK.out _ _ (KEEP.out _ ((B3.out.alloc B3.out.size _).alloc (by have := B3.out.size; first | omega | (simp; done) | (simp; omega)) _)) (fun hHeld => ?_)
  clear hK K
  try simp only [List.getElem_toArray, List.getElem_cons_succ, List.getElem_cons_zero, Act.put, List.setIfInBounds_toArray, List.set_cons_zero, List.set_cons_succ]
  refine wpAnyH_ready (rs := [35]) (by kernel_rfl) (by simp) ?_
  refine AllReadyH.cons rfl (fun K hK => ?_) AllReadyH.nil
  go_simp
  go_at_call 38
  refine (CAS.out D r _ lp m _ RD.out (by omega) B3.out).mono ?_
  rintro e w4 ⟨rfl, hb4⟩
  have B4 := Lib.hid hb4
  clear hb4
  go_wp2_with fail
  refine hK.out _ _ (KEEP.out _ B4.out) (fun hHeld => ?_)
  clear hK K
  try simp only [List.getElem_toArray, List.getElem_cons_succ, List.getElem_cons_zero, Act.put, List.setIfInBounds_toArray, List.set_cons_zero, List.set_cons_succ]
  refine wpAnyH_ready (rs := [36]) (by kernel_rfl) (by simp) ?_
  refine AllReadyH.cons rfl (fun K hK => ?_) AllReadyH.nil
  go_simp
  refine hK.out _ _ (KEEP.out _ (B4.out.alloc B4.out.size _)) (fun hHeld => ?_)
  clear hK K
  try simp only [List.getElem_toArray, List.getElem_cons_succ, List.getElem_cons_zero, Act.put, List.setIfInBounds_toArray, List.set_cons_zero, List.set_cons_succ]
  refine wpAnyH_ready (rs := [37]) (by kernel_rfl) (by simp) ?_
  refine AllReadyH.cons rfl (fun K hK => ?_) AllReadyH.nil
  go_simp
  go_at_call 24
  refine (first4 _ _ _ _ _).mono ?_
  rw [HF.out]
  rintro e w' ⟨rfl, rfl⟩
  go_wp2_with fail
  refine hK.out _ _ (KEEP.out _ (B4.out.alloc B4.out.size _)) (fun hHeld => ?_)
  clear hK K
  try simp only [List.getElem_toArray, List.getElem_cons_succ, List.getElem_cons_zero, Act.put, List.setIfInBounds_toArray, List.set_cons_zero, List.set_cons_succ]
  refine wpAnyH_take (i := 38) (v := ?_) rfl (by kernel_rfl) (by kernel_rfl) (by kernel_rfl) (fun _ _ _ h => h) (Or.inl ⟨by rfl, ?_⟩) (by assumption) ?_
  rotate_left
  · intro w hSw; (try dsimp only at hSw); go_simp; (try (with_reducible rfl))
  try simp only [List.getElem_toArray, List.getElem_cons_succ, List.getElem_cons_zero, Act.put, List.setIfInBounds_toArray, List.set_cons_zero, List.set_cons_succ]
  refine wpAnyH_done (by kernel_rfl) ?_ _
  have hEn : (grp1E n m ld lp != 0) = true := by simpa using hE
  have HGE : Hid (grpE n m ds ps ld lp = grp1E n m ld lp) := if_neg hE
  have B9 := Lib.hid (HB1.out.trans ((B4.out.alloc B4.out.size (.cells #[.int .i64 (whenE true 10), .int .i64 (whenE (decide ((4 : Int) < (m : Int))) 8), .int .i64 (lostE n (-1) ld), .int .i64 (lostE m (-1) lp)] 27)).mono HB1.out.size))
  clear hE
  go_wp2
  go_ret
  exact ⟨by rw [HGE.out]; rfl, B9.out⟩
set_option maxRecDepth 100000 in
set_option maxHeartbeats 8000000 in
theorem cgr_many (A B C D : Option Addr) (n m l r ca cb cc cd : Nat) (ds ps : List (List Int)) (ld lp : List Int) (w : World) (hA : RdD w A n ds) (hB : RdD w B m ps) (hC : RdI w C l ld) (hD : RdI w D r lp) (hn : n ≤ 1000) (hm : m ≤ 1000) (hl : l ≤ 1000) (hr : r ≤ 1000) (h0 : 12 < n) :
    Calls Tryd.prog 15 #[.agg #[.slice A n ca, .slice B m cb, .slice C l cc, .slice D r cd]] w fun e w' => e = .returned (.int .i64 (grpE n m ds ps ld lp)) ∧ Below w.heap.size w w' := by
  have hE : grp1E n m ld lp ≠ 0 := fun h => by have := grp1_shape h; omega
  have hn0 : ((n : Int) == 0) = false := by simp; try omega
  have hn12 : decide ((12 : Int) < (n : Int)) = true := by simp; omega
  have hn12n : decide (12 < n) = true := by simp; omega
  have e1 : (decide (n = 0) || decide (m = 0)) = ((m : Int) == 0) := by rw [decide_eq_false (show ¬ n = 0 by omega), Bool.false_or]; by_cases h : m = 0 <;> simp [h]
  have e2 : (decide (12 < n) || decide (4 < m)) = true := by rw [decide_eq_true (show 12 < n by omega)]; rfl
  have HF : Hid (firstE [whenE ((m : Int) == 0) 10, whenE true 8, lostE n (-1) ld, lostE m (-1) lp] = grp1E n m ld lp) := by
    show _ = _
    unfold grp1E
    rw [e1, e2]
  obtain ⟨w1, hw1⟩ : ∃ W, w.alloc (.cells #[.slice A n ca, .slice B m cb, .slice C l cc, .slice D r cd] 33) = W := ⟨_, rfl⟩
  have b1 : Below w.heap.size w w1 := by rw [← hw1]; exact (Below.refl _ _).alloc (Nat.le_refl _) _
  have HBK : Hid (Bk w1 w.heap.size 33 #[.slice A n ca, .slice B m cb, .slice C l cc, .slice D r cd]) := by show Bk _ _ _ _; rw [← hw1]; exact Bk.new _ _ _
  have HB1 := Lib.hid b1
  have HW1 := Lib.hid hw1
  have KEEP : Hid (∀ W, Below w1.heap.size w1 W → W.cell? ⟨w.heap.size, 0, none⟩ = some (.slice A n ca) ∧ W.cell? ⟨w.heap.size, 1, none⟩ = some (.slice B m cb) ∧ W.cell? ⟨w.heap.size, 2, none⟩ = some (.slice C l cc) ∧ W.cell? ⟨w.heap.size, 3, none⟩ = some (.slice D r cd)) := fun W hW => bk4 (HBK.out.below hW HBK.out.lt)
  have RC : Hid (∀ W, Below w1.heap.size w1 W → RdI W C l ld) := fun W hW => (hC.below HB1.out).below hW
  have RD : Hid (∀ W, Below w1.heap.size w1 W → RdI W D r lp) := fun W hW => (hD.below HB1.out).below hW
  have RA : Hid (∀ W, Below w1.heap.size w1 W → RdD W A n ds) := fun W hW => (hA.below HB1.out).below hW
  have RB : Hid (∀ W, Below w1.heap.size w1 W → RdD W B m ps) := fun W hW => (hB.below HB1.out).below hW
  have CAS : Hid (∀ (X : Option Addr) (q c : Nat) (xs : List Int) (k : Nat) (W : World), (∀ V, Below w1.heap.size w1 V → RdI V X q xs) → q ≤ 1000000 → Below w1.heap.size w1 W → Calls Tryd.prog 38 #[.slice X q c, .func (Fn.func 64) #[] #[.pointer (some ⟨W.heap.size, 0, none⟩), .pointer (some ⟨W.heap.size + 1, 0, none⟩)]] ((W.alloc (.cells #[.int .i64 (k : Int)] 3)).alloc (.cells #[.int .i64 (-1)] 3))
      fun e w' => e = .returned (.int .i64 (lostE k (-1) xs)) ∧ Below w1.heap.size w1 w') := fun X q c xs k W hX hq hW => by
    have hb2 : Below w1.heap.size w1 ((W.alloc (.cells #[.int .i64 (k : Int)] 3)).alloc (.cells #[.int .i64 (-1)] 3)) := (hW.alloc hW.size _).alloc (by have := hW.size; simp; omega) _
    refine (checkEachAsc_any X q c xs k (-1) W.heap.size (W.heap.size + 1) _ (fun V hV => hX V (hb2.trans (hV.mono (by have := hW.size; omega)))) hq ?_ ?_ (by omega)).mono ?_
    · rw [((Bk.new W 3 #[.int .i64 (k : Int)]).alloc _).cell]; rfl
    · simpa using Bk.new (W.alloc (.cells #[.int .i64 (k : Int)] 3)) 3 #[.int .i64 (-1)]
    · rintro e w' ⟨he, hb⟩
      exact ⟨he, hb2.trans (hb.mono (by have := hW.size; omega))⟩
  have B1 : Hid (Below w1.heap.size w1 w1.drew) := (Below.refl _ _).drew
  clear b1 hw1 hA hB hC hD e1 e2 h0
  go_enter Tryd.func15, Tryd.ntmps15
  go_upto_region 1 with fail
  rw [show w.alloc (.cells #[.slice A n ca, .slice B m cb, .slice C l cc, .slice D r cd] 33) = w1 from HW1.out]
  refine wp_region_held_drew (S := (fun w' : World => w'.cell? ⟨w.heap.size, 0, none⟩ = some (.slice A n ca) ∧ w'.cell? ⟨w.heap.size, 1, none⟩ = some (.slice B m cb) ∧ w'.cell? ⟨w.heap.size, 2, none⟩ = some (.slice C l cc) ∧ w'.cell? ⟨w.heap.size, 3, none⟩ = some (.slice D r cd))) (by kernel_rfl) (KEEP.out _ (Below.refl _ _).drew) ?_
  intro hHeld
  refine wpAnyH_take (i := 0) (v := ?_) rfl (by kernel_rfl) (by kernel_rfl) (by kernel_rfl) (fun _ _ _ h => h) (Or.inl ⟨by rfl, ?_⟩) (by assumption) ?_
  rotate_left
  · intro w hSw; (try dsimp only at hSw); go_simp; (try (with_reducible rfl))
  try simp only [List.getElem_toArray, List.getElem_cons_succ, List.getElem_cons_zero, Act.put, List.setIfInBounds_toArray, List.set_cons_zero, List.set_cons_succ]
  refine wpAnyH_take (i := 1) (v := ?_) rfl (by kernel_rfl) (by kernel_rfl) (by kernel_rfl) (fun _ _ _ h => h) (Or.inl ⟨by rfl, ?_⟩) (by assumption) ?_
  rotate_left
  · intro w hSw; (try dsimp only at hSw); go_simp; (try (with_reducible rfl))
  try simp only [List.getElem_toArray, List.getElem_cons_succ, List.getElem_cons_zero, Act.put, List.setIfInBounds_toArray, List.set_cons_zero, List.set_cons_succ]
  refine wpAnyH_take (i := 2) (v := ?_) rfl (by kernel_rfl) (by kernel_rfl) (by kernel_rfl) (fun _ _ _ h => h) (Or.inl ⟨by rfl, ?_⟩) (by assumption) ?_
  rotate_left
  · intro w hSw; (try dsimp only at hSw); go_simp; (try (with_reducible rfl))
  try simp only [List.getElem_toArray, List.getElem_cons_succ, List.getElem_cons_zero, Act.put, List.setIfInBounds_toArray, List.set_cons_zero, List.set_cons_succ]
  refine wpAnyH_take (i := 3) (v := ?_) rfl (by kernel_rfl) (by kernel_rfl) (by kernel_rfl) (fun _ _ _ h => h) (Or.inl ⟨by rfl, ?_⟩) (by assumption) ?_
  rotate_left
  · intro w hSw; (try dsimp only at hSw); go_simp; (try (with_reducible rfl))
  try simp only [List.getElem_toArray, List.getElem_cons_succ, List.getElem_cons_zero, Act.put, List.setIfInBounds_toArray, List.set_cons_zero, List.set_cons_succ]
  first | rw [hn0] | skip
  refine wpAnyH_take (i := 4) (v := ?_) rfl (by kernel_rfl) (by kernel_rfl) (by kernel_rfl) (fun _ _ _ h => h) (Or.inl ⟨by rfl, ?_⟩) (by assumption) ?_
  rotate_left
  · intro w hSw; (try dsimp only at hSw); go_simp; (try (with_reducible rfl))
  try simp only [List.getElem_toArray, List.getElem_cons_succ, List.getElem_cons_zero, Act.put, List.setIfInBounds_toArray, List.set_cons_zero, List.set_cons_succ]
  refine wpAnyH_take (i := 5) (v := ?_) rfl (by kernel_rfl) (by kernel_rfl) (by kernel_rfl) (fun _ _ _ h => h) (Or.inl ⟨by rfl, ?_⟩) (by assumption) ?_
  rotate_left
  · intro w hSw; (try dsimp only at hSw); go_simp; (try (with_reducible rfl))
  try simp only [List.getElem_toArray, List.getElem_cons_succ, List.getElem_cons_zero, Act.put, List.setIfInBounds_toArray, List.set_cons_zero, List.set_cons_succ]
  refine wpAnyH_take (i := 6) (v := ?_) rfl (by kernel_rfl) (by kernel_rfl) (by kernel_rfl) (fun _ _ _ h => h) (Or.inl ⟨by rfl, ?_⟩) (by assumption) ?_
  rotate_left
  · intro w hSw; (try dsimp only at hSw); go_simp; (try (with_reducible rfl))
  try simp only [List.getElem_toArray, List.getElem_cons_succ, List.getElem_cons_zero, Act.put, List.setIfInBounds_toArray, List.set_cons_zero, List.set_cons_succ]
  refine wpAnyH_take (i := 7) (v := ?_) rfl (by kernel_rfl) (by kernel_rfl) (by kernel_rfl) (fun _ _ _ h => h) (Or.inl ⟨by rfl, ?_⟩) (by assumption) ?_
  rotate_left
  · intro w hSw; (try dsimp only at hSw); go_simp; (try (with_reducible rfl))
  try simp only [List.getElem_toArray, List.getElem_cons_succ, List.getElem_cons_zero, Act.put, List.setIfInBounds_toArray, List.set_cons_zero, List.set_cons_succ]
  refine wpAnyH_take (i := 8) (v := ?_) rfl (by kernel_rfl) (by kernel_rfl) (by kernel_rfl) (fun _ _ _ h => h) (Or.inl ⟨by rfl, ?_⟩) (by assumption) ?_
  rotate_left
  · intro w hSw; (try dsimp only at hSw); go_simp; (try (with_reducible rfl))
  try simp only [List.getElem_toArray, List.getElem_cons_succ, List.getElem_cons_zero, Act.put, List.setIfInBounds_toArray, List.set_cons_zero, List.set_cons_succ]
  refine wpAnyH_take (i := 9) (v := ?_) rfl (by kernel_rfl) (by kernel_rfl) (by kernel_rfl) (fun _ _ _ h => h) (Or.inl ⟨by rfl, ?_⟩) (by assumption) ?_
  rotate_left
  · intro w hSw; (try dsimp only at hSw); go_simp; (try (with_reducible rfl))
  try simp only [List.getElem_toArray, List.getElem_cons_succ, List.getElem_cons_zero, Act.put, List.setIfInBounds_toArray, List.set_cons_zero, List.set_cons_succ]
  refine wpAnyH_take (i := 11) (v := ?_) rfl (by kernel_rfl) (by kernel_rfl) (by kernel_rfl) (fun _ _ _ h => h) (Or.inl ⟨by rfl, ?_⟩) (by assumption) ?_
  rotate_left
  · intro w hSw; (try dsimp only at hSw); go_simp; (try (with_reducible rfl))
  try simp only [List.getElem_toArray, List.getElem_cons_succ, List.getElem_cons_zero, Act.put, List.setIfInBounds_toArray, List.set_cons_zero, List.set_cons_succ]
  refine wpAnyH_take (i := 12) (v := ?_) rfl (by kernel_rfl) (by kernel_rfl) (by kernel_rfl) (fun _ _ _ h => h) (Or.inl ⟨by rfl, ?_⟩) (by assumption) ?_
  rotate_left
  · intro w hSw; (try dsimp only at hSw); go_simp; (try (with_reducible rfl))
  try simp only [List.getElem_toArray, List.getElem_cons_succ, List.getElem_cons_zero, Act.put, List.setIfInBounds_toArray, List.set_cons_zero, List.set_cons_succ]
  refine wpAnyH_take (i := 13) (v := ?_) rfl (by kernel_rfl) (by kernel_rfl) (by kernel_rfl) (fun _ _ _ h => h) (Or.inl ⟨by rfl, ?_⟩) (by assumption) ?_
  rotate_left
  · intro w hSw; (try dsimp only at hSw); go_simp; (try (with_reducible rfl))
  try simp only [List.getElem_toArray, List.getElem_cons_succ, List.getElem_cons_zero, Act.put, List.setIfInBounds_toArray, List.set_cons_zero, List.set_cons_succ]
  refine wpAnyH_take (i := 14) (v := ?_) rfl (by kernel_rfl) (by kernel_rfl) (by kernel_rfl) (fun _ _ _ h => h) (Or.inl ⟨by rfl, ?_⟩) (by assumption) ?_
  rotate_left
  · intro w hSw; (try dsimp only at hSw); go_simp; (try (with_reducible rfl))
  try simp only [List.getElem_toArray, List.getElem_cons_succ, List.getElem_cons_zero, Act.put, List.setIfInBounds_toArray, List.set_cons_zero, List.set_cons_succ]
  refine wpAnyH_take (i := 22) (v := ?_) rfl (by kernel_rfl) (by kernel_rfl) (by kernel_rfl) (fun _ _ _ h => h) (Or.inl ⟨by rfl, ?_⟩) (by assumption) ?_
  rotate_left
  · intro w hSw; (try dsimp only at hSw); go_simp; (try (with_reducible rfl))
  try simp only [List.getElem_toArray, List.getElem_cons_succ, List.getElem_cons_zero, Act.put, List.setIfInBounds_toArray, List.set_cons_zero, List.set_cons_succ]
  refine wpAnyH_take (i := 23) (v := ?_) rfl (by kernel_rfl) (by kernel_rfl) (by kernel_rfl) (fun _ _ _ h => h) (Or.inl ⟨by rfl, ?_⟩) (by assumption) ?_
  rotate_left
  · intro w hSw; (try dsimp only at hSw); go_simp; (try (with_reducible rfl))
  try simp only [List.getElem_toArray, List.getElem_cons_succ, List.getElem_cons_zero, Act.put, List.setIfInBounds_toArray, List.set_cons_zero, List.set_cons_succ]
  refine wpAnyH_take (i := 24) (v := ?_) rfl (by kernel_rfl) (by kernel_rfl) (by kernel_rfl) (fun _ _ _ h => h) (Or.inl ⟨by rfl, ?_⟩) (by assumption) ?_
  rotate_left
  · intro w hSw; (try dsimp only at hSw); go_simp; (try (with_reducible rfl))
  try simp only [List.getElem_toArray, List.getElem_cons_succ, List.getElem_cons_zero, Act.put, List.setIfInBounds_toArray, List.set_cons_zero, List.set_cons_succ]
  refine wpAnyH_take (i := 25) (v := ?_) rfl (by kernel_rfl) (by kernel_rfl) (by kernel_rfl) (fun _ _ _ h => h) (Or.inl ⟨by rfl, ?_⟩) (by assumption) ?_
  rotate_left
  · intro w hSw; (try dsimp only at hSw); go_simp; (try (with_reducible rfl))
  try simp only [List.getElem_toArray, List.getElem_cons_succ, List.getElem_cons_zero, Act.put, List.setIfInBounds_toArray, List.set_cons_zero, List.set_cons_succ]
  refine wpAnyH_take (i := 26) (v := ?_) rfl (by kernel_rfl) (by kernel_rfl) (by kernel_rfl) (fun _ _ _ h => h) (Or.inl ⟨by rfl, ?_⟩) (by assumption) ?_
  rotate_left
  · intro w hSw; (try dsimp only at hSw); go_simp; (try (with_reducible rfl))
  try simp only [List.getElem_toArray, List.getElem_cons_succ, List.getElem_cons_zero, Act.put, List.setIfInBounds_toArray, List.set_cons_zero, List.set_cons_succ]
  refine wpAnyH_take (i := 29) (v := ?_) rfl (by kernel_rfl) (by kernel_rfl) (by kernel_rfl) (fun _ _ _ h => h) (Or.inl ⟨by rfl, ?_⟩) (by assumption) ?_
  rotate_left
  · intro w hSw; (try dsimp only at hSw); go_simp; (try (with_reducible rfl))
  try simp only [List.getElem_toArray, List.getElem_cons_succ, List.getElem_cons_zero, Act.put, List.setIfInBounds_toArray, List.set_cons_zero, List.set_cons_succ]
  refine wpAnyH_take (i := 30) (v := ?_) rfl (by kernel_rfl) (by kernel_rfl) (by kernel_rfl) (fun _ _ _ h => h) (Or.inl ⟨by rfl, ?_⟩) (by assumption) ?_
  rotate_left
  · intro w hSw; (try dsimp only at hSw); go_simp; (try (with_reducible rfl))
  try simp only [List.getElem_toArray, List.getElem_cons_succ, List.getElem_cons_zero, Act.put, List.setIfInBounds_toArray, List.set_cons_zero, List.set_cons_succ]
  refine wpAnyH_take (i := 31) (v := ?_) rfl (by kernel_rfl) (by kernel_rfl) (by kernel_rfl) (fun _ _ _ h => h) (Or.inl ⟨by rfl, ?_⟩) (by assumption) ?_
  rotate_left
  · intro w hSw; (try dsimp only at hSw); go_simp; (try (with_reducible rfl))
  try simp only [List.getElem_toArray, List.getElem_cons_succ, List.getElem_cons_zero, Act.put, List.setIfInBounds_toArray, List.set_cons_zero, List.set_cons_succ]
  refine wpAnyH_take (i := 32) (v := ?_) rfl (by kernel_rfl) (by kernel_rfl) (by kernel_rfl) (fun _ _ _ h => h) (Or.inl ⟨by rfl, ?_⟩) (by assumption) ?_
  rotate_left
  · intro w hSw; (try dsimp only at hSw); go_simp; (try (with_reducible rfl))
  try simp only [List.getElem_toArray, List.getElem_cons_succ, List.getElem_cons_zero, Act.put, List.setIfInBounds_toArray, List.set_cons_zero, List.set_cons_succ]
  refine wpAnyH_take (i := 33) (v := ?_) rfl (by kernel_rfl) (by kernel_rfl) (by kernel_rfl) (fun _ _ _ h => h) (Or.inl ⟨by rfl, ?_⟩) (by assumption) ?_
  rotate_left
  · intro w hSw; (try dsimp only at hSw); go_simp; (try (with_reducible rfl))
  try simp only [List.getElem_toArray, List.getElem_cons_succ, List.getElem_cons_zero, Act.put, List.setIfInBounds_toArray, List.set_cons_zero, List.set_cons_succ]
  refine wpAnyH_ready (rs := [10]) (by kernel_rfl) (by simp) ?_
  refine AllReadyH.cons rfl (fun K hK => ?_) AllReadyH.nil
  go_simp
  go_at_call 25
  refine (when_any _ _ _).mono ?_
  rintro e w' ⟨rfl, rfl⟩
  go_wp2_with fail
  refine hK.out _ _ (KEEP.out _ B1.out) (fun hHeld => ?_)
  clear hK K
  try simp only [List.getElem_toArray, List.getElem_cons_succ, List.getElem_cons_zero, Act.put, List.setIfInBounds_toArray, List.set_cons_zero, List.set_cons_succ]
  first | rw [hn12] | rw [hn12n] | skip
  refine wpAnyH_take (i := 15) (v := ?_) rfl (by kernel_rfl) (by kernel_rfl) (by kernel_rfl) (fun _ _ _ h => h) (Or.inl ⟨by rfl, ?_⟩) (by assumption) ?_
  rotate_left
  · intro w hSw; (try dsimp only at hSw); go_simp; (try (with_reducible rfl))
  try simp only [List.getElem_toArray, List.getElem_cons_succ, List.getElem_cons_zero, Act.put, List.setIfInBounds_toArray, List.set_cons_zero, List.set_cons_succ]
  refine wpAnyH_take (i := 16) (v := undef) rfl (by kernel_rfl) (by kernel_rfl) (by kernel_rfl) (fun _ _ _ h => h) (Or.inr ⟨by rfl, rfl⟩) (by assumption) ?_
  try simp only [List.getElem_toArray, List.getElem_cons_succ, List.getElem_cons_zero, Act.put, List.setIfInBounds_toArray, List.set_cons_zero, List.set_cons_succ]
  refine wpAnyH_take (i := 17) (v := undef) rfl (by kernel_rfl) (by kernel_rfl) (by kernel_rfl) (fun _ _ _ h => h) (Or.inr ⟨by rfl, rfl⟩) (by assumption) ?_
  try simp only [List.getElem_toArray, List.getElem_cons_succ, List.getElem_cons_zero, Act.put, List.setIfInBounds_toArray, List.set_cons_zero, List.set_cons_succ]
  refine wpAnyH_take (i := 18) (v := undef) rfl (by kernel_rfl) (by kernel_rfl) (by kernel_rfl) (fun _ _ _ h => h) (Or.inr ⟨by rfl, rfl⟩) (by assumption) ?_
  try simp only [List.getElem_toArray, List.getElem_cons_succ, List.getElem_cons_zero, Act.put, List.setIfInBounds_toArray, List.set_cons_zero, List.set_cons_succ]
  refine wpAnyH_take (i := 19) (v := undef) rfl (by kernel_rfl) (by kernel_rfl) (by kernel_rfl) (fun _ _ _ h => h) (Or.inr ⟨by rfl, rfl⟩) (by assumption) ?_
  try simp only [List.getElem_toArray, List.getElem_cons_succ, List.getElem_cons_zero, Act.put, List.setIfInBounds_toArray, List.set_cons_zero, List.set_cons_succ]
  refine wpAnyH_take (i := 20) (v := ?_) rfl (by kernel_rfl) (by kernel_rfl) (by kernel_rfl) (fun _ _ _ h => h) (Or.inl ⟨by rfl, ?_⟩) (by assumption) ?_
  rotate_left
  · intro w hSw; (try dsimp only at hSw); go_simp; (try (with_reducible rfl))
  try simp only [List.getElem_toArray, List.getElem_cons_succ, List.getElem_cons_zero, Act.put, List.setIfInBounds_toArray, List.set_cons_zero, List.set_cons_succ]
  refine wpAnyH_ready (rs := [21]) (by kernel_rfl) (by simp) ?_
  refine AllReadyH.cons rfl (fun K hK => ?_) AllReadyH.nil
  go_simp
  go_at_call 25
  refine (when_any _ _ _).mono ?_
  rintro e w' ⟨rfl, rfl⟩
  go_wp2_with fail
  refine hK.out _ _ (KEEP.out _ B1.out) (fun hHeld => ?_)
  clear hK K
  try simp only [List.getElem_toArray, List.getElem_cons_succ, List.getElem_cons_zero, Act.put, List.setIfInBounds_toArray, List.set_cons_zero, List.set_cons_succ]
  refine wpAnyH_ready (rs := [27]) (by kernel_rfl) (by simp) ?_
  refine AllReadyH.cons rfl (fun K hK => ?_) AllReadyH.nil
  go_simp
  go_at_call 39
  refine (ascBelow_any _ _).mono ?_
  rintro e w' ⟨rfl, rfl⟩
  go_wp2_with fail
  refine hK.out _ _ (KEEP.out _ ((B1.out.alloc B1.out.size _).alloc (by have := B1.out.size; first | omega | (simp; done) | (simp; omega)) _)) (fun hHeld => ?_)
  clear hK K
  try simp only [List.getElem_toArray, List.getElem_cons_succ, List.getElem_cons_zero, Act.put, List.setIfInBounds_toArray, List.set_cons_zero, List.set_cons_succ]
  refine wpAnyH_ready (rs := [28]) (by kernel_rfl) (by simp) ?_
  refine AllReadyH.cons rfl (fun K hK => ?_) AllReadyH.nil
  go_simp
  go_at_call 38
  refine (CAS.out C l _ ld n _ RC.out (by omega) B1.out).mono ?_
  rintro e w3 ⟨rfl, hb3⟩
  have B3 := Lib.hid hb3
  clear hb3
  go_wp2_with fail
  refine hK.out _ _ (KEEP.out _ B3.out) (fun hHeld => ?_)
  clear hK K
  try simp only [List.getElem_toArray, List.getElem_cons_succ, List.getElem_cons_zero, Act.put, List.setIfInBounds_toArray, List.set_cons_zero, List.set_cons_succ]
  refine wpAnyH_ready (rs := [34]) (by kernel_rfl) (by simp) ?_
  refine AllReadyH.cons rfl (fun K hK => ?_) AllReadyH.nil
  go_simp
  go_at_call 39
  refine (ascBelow_any _ _).mono ?_
  rintro e w' ⟨rfl, rfl⟩
  go_wp2_with fail
  refine hK.out _ _ (KEEP.out _ ((B3.out.alloc B3.out.size _).alloc (by have := B3.out.size; first | omega | (simp; done) | (simp; omega)) _)) (fun hHeld => ?_)
  clear hK K
  try simp only [List.getElem_toArray, List.getElem_cons_succ, List.getElem_cons_zero, Act.put, List.setIfInBounds_toArray, List.set_cons_zero, List.set_cons_succ]
  refine wpAnyH_ready (rs := [35]) (by kernel_rfl) (by simp) ?_
  refine AllReadyH.cons rfl (fun K hK => ?_) AllReadyH.nil
  go_simp
  go_at_call 38
  refine (CAS.out D r _ lp m _ RD.out (by omega) B3.out).mono ?_
  rintro e w4 ⟨rfl, hb4⟩
  have B4 := Lib.hid hb4
  clear hb4
  go_wp2_with fail
  refine hK.out _ _ (KEEP.out _ B4.out) (fun hHeld => ?_)
  clear hK K
  try simp only [List.getElem_toArray, List.getElem_cons_succ, List.getElem_cons_zero, Act.put, List.setIfInBounds_toArray, List.set_cons_zero, List.set_cons_succ]
  refine wpAnyH_ready (rs := [36]) (by kernel_rfl) (by simp) ?_
  refine AllReadyH.cons rfl (fun K hK => ?_) AllReadyH.nil
  go_simp
  refine hK.out _ _ (KEEP.out _ (B4.out.alloc B4.out.size _)) (fun hHeld => ?_)
  clear hK K
  try simp only [List.getElem_toArray, List.getElem_cons_succ, List.getElem_cons_zero, Act.put, List.setIfInBounds_toArray, List.set_cons_zero, List.set_cons_succ]
  refine wpAnyH_ready (rs := [37]) (by kernel_rfl) (by simp) ?_
  refine AllReadyH.cons rfl (fun K hK => ?_) AllReadyH.nil
  go_simp
  go_at_call 24
  refine (first4 _ _ _ _ _).mono ?_
  rw [HF.out]
  rintro e w' ⟨rfl, rfl⟩
  go_wp2_with fail
  refine hK.out _ _ (KEEP.out _ (B4.out.alloc B4.out.size _)) (fun hHeld => ?_)
  clear hK K
  try simp only [List.getElem_toArray, List.getElem_cons_succ, List.getElem_cons_zero, Act.put, List.setIfInBounds_toArray, List.set_cons_zero, List.set_cons_succ]
  refine wpAnyH_take (i := 38) (v := ?_) rfl (by kernel_rfl) (by kernel_rfl) (by kernel_rfl) (fun _ _ _ h => h) (Or.inl ⟨by rfl, ?_⟩) (by assumption) ?_
  rotate_left
  · intro w hSw; (try dsimp only at hSw); go_simp; (try (with_reducible rfl))
  try simp only [List.getElem_toArray, List.getElem_cons_succ, List.getElem_cons_zero, Act.put, List.setIfInBounds_toArray, List.set_cons_zero, List.set_cons_succ]
  refine wpAnyH_done (by kernel_rfl) ?_ _
  have hEn : (grp1E n m ld lp != 0) = true := by simpa using hE
  have HGE : Hid (grpE n m ds ps ld lp = grp1E n m ld lp) := if_neg hE
  have B9 := Lib.hid (HB1.out.trans ((B4.out.alloc B4.out.size (.cells #[.int .i64 (whenE ((m : Int) == 0) 10), .int .i64 (whenE true 8), .int .i64 (lostE n (-1) ld), .int .i64 (lostE m (-1) lp)] 27)).mono HB1.out.size))
  clear hE
  go_wp2
  go_ret
  exact ⟨by rw [HGE.out]; rfl, B9.out⟩
set_option maxRecDepth 100000 in
set_option maxHeartbeats 8000000 in
theorem cgr_err (A B C D : Option Addr) (n m l r ca cb cc cd : Nat) (ds ps : List (List Int)) (ld lp : List Int) (w : World) (hA : RdD w A n ds) (hB : RdD w B m ps) (hC : RdI w C l ld) (hD : RdI w D r lp) (hn : n ≤ 1000) (hm : m ≤ 1000) (hl : l ≤ 1000) (hr : r ≤ 1000) (h0 : 0 < n) (h12 : n ≤ 12) (hE : grp1E n m ld lp ≠ 0) :
    Calls Tryd.prog 15 #[.agg #[.slice A n ca, .slice B m cb, .slice C l cc, .slice D r cd]] w fun e w' => e = .returned (.int .i64 (grpE n m ds ps ld lp)) ∧ Below w.heap.size w w' := by
  have hn0 : ((n : Int) == 0) = false := by simp; try omega
  have hn12 : decide ((12 : Int) < (n : Int)) = false := by simp; omega
  have hn12n : decide (12 < n) = false := by simp; omega
  have e1 : (decide (n = 0) || decide (m = 0)) = ((m : Int) == 0) := by rw [decide_eq_false (show ¬ n = 0 by omega), Bool.false_or]; by_cases h : m = 0 <;> simp [h]
  have e2 : (decide (12 < n) || decide (4 < m)) = (decide ((4 : Int) < (m : Int))) := by rw [decide_eq_false (show ¬ 12 < n by omega), Bool.false_or]; exact decide_eq_decide.2 (by omega)
  have HF : Hid (firstE [whenE ((m : Int) == 0) 10, whenE (decide ((4 : Int) < (m : Int))) 8, lostE n (-1) ld, lostE m (-1) lp] = grp1E n m ld lp) := by
    show _ = _
    unfold grp1E
    rw [e1, e2]
  obtain ⟨w1, hw1⟩ : ∃ W, w.alloc (.cells #[.slice A n ca, .slice B m cb, .slice C l cc, .slice D r cd] 33) = W := ⟨_, rfl⟩
  have b1 : Below w.heap.size w w1 := by rw [← hw1]; exact (Below.refl _ _).alloc (Nat.le_refl _) _
  have HBK : Hid (Bk w1 w.heap.size 33 #[.slice A n ca, .slice B m cb, .slice C l cc, .slice D r cd]) := by show Bk _ _ _ _; rw [← hw1]; exact Bk.new _ _ _
  have HB1 := Lib.hid b1
  have HW1 := Lib.hid hw1
  have KEEP : Hid (∀ W, Below w1.heap.size w1 W → W.cell? ⟨w.heap.size, 0, none⟩ = some (.slice A n ca) ∧ W.cell? ⟨w.heap.size, 1, none⟩ = some (.slice B m cb) ∧ W.cell? ⟨w.heap.size, 2, none⟩ = some (.slice C l cc) ∧ W.cell? ⟨w.heap.size, 3, none⟩ = some (.slice D r cd)) := fun W hW => bk4 (HBK.out.below hW HBK.out.lt)
  have RC : Hid (∀ W, Below w1.heap.size w1 W → RdI W C l ld) := fun W hW => (hC.below HB1.out).below hW
  have RD : Hid (∀ W, Below w1.heap.size w1 W → RdI W D r lp) := fun W hW => (hD.below HB1.out).below hW
  have RA : Hid (∀ W, Below w1.heap.size w1 W → RdD W A n ds) := fun W hW => (hA.below HB1.out).below hW
  have RB : Hid (∀ W, Below w1.heap.size w1 W → RdD W B m ps) := fun W hW => (hB.below HB1.out).below hW
  have CAS : Hid (∀ (X : Option Addr) (q c : Nat) (xs : List Int) (k : Nat) (W : World), (∀ V, Below w1.heap.size w1 V → RdI V X q xs) → q ≤ 1000000 → Below w1.heap.size w1 W → Calls Tryd.prog 38 #[.slice X q c, .func (Fn.func 64) #[] #[.pointer (some ⟨W.heap.size, 0, none⟩), .pointer (some ⟨W.heap.size + 1, 0, none⟩)]] ((W.alloc (.cells #[.int .i64 (k : Int)] 3)).alloc (.cells #[.int .i64 (-1)] 3))
      fun e w' => e = .returned (.int .i64 (lostE k (-1) xs)) ∧ Below w1.heap.size w1 w') := fun X q c xs k W hX hq hW => by
    have hb2 : Below w1.heap.size w1 ((W.alloc (.cells #[.int .i64 (k : Int)] 3)).alloc (.cells #[.int .i64 (-1)] 3)) := (hW.alloc hW.size _).alloc (by have := hW.size; simp; omega) _
    refine (checkEachAsc_any X q c xs k (-1) W.heap.size (W.heap.size + 1) _ (fun V hV => hX V (hb2.trans (hV.mono (by have := hW.size; omega)))) hq ?_ ?_ (by omega)).mono ?_
    · rw [((Bk.new W 3 #[.int .i64 (k : Int)]).alloc _).cell]; rfl
    · simpa using Bk.new (W.alloc (.cells #[.int .i64 (k : Int)] 3)) 3 #[.int .i64 (-1)]
    · rintro e w' ⟨he, hb⟩
      exact ⟨he, hb2.trans (hb.mono (by have := hW.size; omega))⟩
  have B1 : Hid (Below w1.heap.size w1 w1.drew) := (Below.refl _ _).drew
  clear b1 hw1 hA hB hC hD e1 e2 h0 h12
  go_enter Tryd.func15, Tryd.ntmps15
  go_upto_region 1 with fail
  rw [show w.alloc (.cells #[.slice A n ca, .slice B m cb, .slice C l cc, .slice D r cd] 33) = w1 from HW1.out]
  refine wp_region_held_drew (S := (fun w' : World => w'.cell? ⟨w.heap.size, 0, none⟩ = some (.slice A n ca) ∧ w'.cell? ⟨w.heap.size, 1, none⟩ = some (.slice B m cb) ∧ w'.cell? ⟨w.heap.size, 2, none⟩ = some (.slice C l cc) ∧ w'.cell? ⟨w.heap.size, 3, none⟩ = some (.slice D r cd))) (by kernel_rfl) (KEEP.out _ (Below.refl _ _).drew) ?_
  intro hHeld
  refine wpAnyH_take (i := 0) (v := ?_) rfl (by kernel_rfl) (by kernel_rfl) (by kernel_rfl) (fun _ _ _ h => h) (Or.inl ⟨by rfl, ?_⟩) (by assumption) ?_
  rotate_left
  · intro w hSw; (try dsimp only at hSw); go_simp; (try (with_reducible rfl))
  try simp only [List.getElem_toArray, List.getElem_cons_succ, List.getElem_cons_zero, Act.put, List.setIfInBounds_toArray, List.set_cons_zero, List.set_cons_succ]
  refine wpAnyH_take (i := 1) (v := ?_) rfl (by kernel_rfl) (by kernel_rfl) (by kernel_rfl) (fun _ _ _ h => h) (Or.inl ⟨by rfl, ?_⟩) (by assumption) ?_
  rotate_left
  · intro w hSw; (try dsimp only at hSw); go_simp; (try (with_reducible rfl))
  try simp only [List.getElem_toArray, List.getElem_cons_succ, List.getElem_cons_zero, Act.put, List.setIfInBounds_toArray, List.set_cons_zero, List.set_cons_succ]
  refine wpAnyH_take (i := 2) (v := ?_) rfl (by kernel_rfl) (by kernel_rfl) (by kernel_rfl) (fun _ _ _ h => h) (Or.inl ⟨by rfl, ?_⟩) (by assumption) ?_
  rotate_left
  · intro w hSw; (try dsimp only at hSw); go_simp; (try (with_reducible rfl))
  try simp only [List.getElem_toArray, List.getElem_cons_succ, List.getElem_cons_zero, Act.put, List.setIfInBounds_toArray, List.set_cons_zero, List.set_cons_succ]
  refine wpAnyH_take (i := 3) (v := ?_) rfl (by kernel_rfl) (by kernel_rfl) (by kernel_rfl) (fun _ _ _ h => h) (Or.inl ⟨by rfl, ?_⟩) (by assumption) ?_
  rotate_left
  · intro w hSw; (try dsimp only at hSw); go_simp; (try (with_reducible rfl))
  try simp only [List.getElem_toArray, List.getElem_cons_succ, List.getElem_cons_zero, Act.put, List.setIfInBounds_toArray, List.set_cons_zero, List.set_cons_succ]
  first | rw [hn0] | skip
  refine wpAnyH_take (i := 4) (v := ?_) rfl (by kernel_rfl) (by kernel_rfl) (by kernel_rfl) (fun _ _ _ h => h) (Or.inl ⟨by rfl, ?_⟩) (by assumption) ?_
  rotate_left
  · intro w hSw; (try dsimp only at hSw); go_simp; (try (with_reducible rfl))
  try simp only [List.getElem_toArray, List.getElem_cons_succ, List.getElem_cons_zero, Act.put, List.setIfInBounds_toArray, List.set_cons_zero, List.set_cons_succ]
  refine wpAnyH_take (i := 5) (v := ?_) rfl (by kernel_rfl) (by kernel_rfl) (by kernel_rfl) (fun _ _ _ h => h) (Or.inl ⟨by rfl, ?_⟩) (by assumption) ?_
  rotate_left
  · intro w hSw; (try dsimp only at hSw); go_simp; (try (with_reducible rfl))
  try simp only [List.getElem_toArray, List.getElem_cons_succ, List.getElem_cons_zero, Act.put, List.setIfInBounds_toArray, List.set_cons_zero, List.set_cons_succ]
  refine wpAnyH_take (i := 6) (v := ?_) rfl (by kernel_rfl) (by kernel_rfl) (by kernel_rfl) (fun _ _ _ h => h) (Or.inl ⟨by rfl, ?_⟩) (by assumption) ?_
  rotate_left
  · intro w hSw; (try dsimp only at hSw); go_simp; (try (with_reducible rfl))
  try simp only [List.getElem_toArray, List.getElem_cons_succ, List.getElem_cons_zero, Act.put, List.setIfInBounds_toArray, List.set_cons_zero, List.set_cons_succ]
  refine wpAnyH_take (i := 7) (v := ?_) rfl (by kernel_rfl) (by kernel_rfl) (by kernel_rfl) (fun _ _ _ h => h) (Or.inl ⟨by rfl, ?_⟩) (by assumption) ?_
  rotate_left
  · intro w hSw; (try dsimp only at hSw); go_simp; (try (with_reducible rfl))
  try simp only [List.getElem_toArray, List.getElem_cons_succ, List.getElem_cons_zero, Act.put, List.setIfInBounds_toArray, List.set_cons_zero, List.set_cons_succ]
  refine wpAnyH_take (i := 8) (v := ?_) rfl (by kernel_rfl) (by kernel_rfl) (by kernel_rfl) (fun _ _ _ h => h) (Or.inl ⟨by rfl, ?_⟩) (by assumption) ?_
  rotate_left
  · intro w hSw; (try dsimp only at hSw); go_simp; (try (with_reducible rfl))
  try simp only [List.getElem_toArray, List.getElem_cons_succ, List.getElem_cons_zero, Act.put, List.setIfInBounds_toArray, List.set_cons_zero, List.set_cons_succ]
  refine wpAnyH_take (i := 9) (v := ?_) rfl (by kernel_rfl) (by kernel_rfl) (by kernel_rfl) (fun _ _ _ h => h) (Or.inl ⟨by rfl, ?_⟩) (by assumption) ?_
  rotate_left
  · intro w hSw; (try dsimp only at hSw); go_simp; (try (with_reducible rfl))
  try simp only [List.getElem_toArray, List.getElem_cons_succ, List.getElem_cons_zero, Act.put, List.setIfInBounds_toArray, List.set_cons_zero, List.set_cons_succ]
  refine wpAnyH_take (i := 11) (v := ?_) rfl (by kernel_rfl) (by kernel_rfl) (by kernel_rfl) (fun _ _ _ h => h) (Or.inl ⟨by rfl, ?_⟩) (by assumption) ?_
  rotate_left
  · intro w hSw; (try dsimp only at hSw); go_simp; (try (with_reducible rfl))
  try simp only [List.getElem_toArray, List.getElem_cons_succ, List.getElem_cons_zero, Act.put, List.setIfInBounds_toArray, List.set_cons_zero, List.set_cons_succ]
  refine wpAnyH_take (i := 12) (v := ?_) rfl (by kernel_rfl) (by kernel_rfl) (by kernel_rfl) (fun _ _ _ h => h) (Or.inl ⟨by rfl, ?_⟩) (by assumption) ?_
  rotate_left
  · intro w hSw; (try dsimp only at hSw); go_simp; (try (with_reducible rfl))
  try simp only [List.getElem_toArray, List.getElem_cons_succ, List.getElem_cons_zero, Act.put, List.setIfInBounds_toArray, List.set_cons_zero, List.set_cons_succ]
  refine wpAnyH_take (i := 13) (v := ?_) rfl (by kernel_rfl) (by kernel_rfl) (by kernel_rfl) (fun _ _ _ h => h) (Or.inl ⟨by rfl, ?_⟩) (by assumption) ?_
  rotate_left
  · intro w hSw; (try dsimp only at hSw); go_simp; (try (with_reducible rfl))
  try simp only [List.getElem_toArray, List.getElem_cons_succ, List.getElem_cons_zero, Act.put, List.setIfInBounds_toArray, List.set_cons_zero, List.set_cons_succ]
  refine wpAnyH_take (i := 14) (v := ?_) rfl (by kernel_rfl) (by kernel_rfl) (by kernel_rfl) (fun _ _ _ h => h) (Or.inl ⟨by rfl, ?_⟩) (by assumption) ?_
  rotate_left
  · intro w hSw; (try dsimp only at hSw); go_simp; (try (with_reducible rfl))
  try simp only [List.getElem_toArray, List.getElem_cons_succ, List.getElem_cons_zero, Act.put, List.setIfInBounds_toArray, List.set_cons_zero, List.set_cons_succ]
  refine wpAnyH_take (i := 22) (v := ?_) rfl (by kernel_rfl) (by kernel_rfl) (by kernel_rfl) (fun _ _ _ h => h) (Or.inl ⟨by rfl, ?_⟩) (by assumption) ?_
  rotate_left
  · intro w hSw; (try dsimp only at hSw); go_simp; (try (with_reducible rfl))
  try simp only [List.getElem_toArray, List.getElem_cons_succ, List.getElem_cons_zero, Act.put, List.setIfInBounds_toArray, List.set_cons_zero, List.set_cons_succ]
  refine wpAnyH_take (i := 23) (v := ?_) rfl (by kernel_rfl) (by kernel_rfl) (by kernel_rfl) (fun _ _ _ h => h) (Or.inl ⟨by rfl, ?_⟩) (by assumption) ?_
  rotate_left
  · intro w hSw; (try dsimp only at hSw); go_simp; (try (with_reducible rfl))
  try simp only [List.getElem_toArray, List.getElem_cons_succ, List.getElem_cons_zero, Act.put, List.setIfInBounds_toArray, List.set_cons_zero, List.set_cons_succ]
  refine wpAnyH_take (i := 24) (v := ?_) rfl (by kernel_rfl) (by kernel_rfl) (by kernel_rfl) (fun _ _ _ h => h) (Or.inl ⟨by rfl, ?_⟩) (by assumption) ?_
  rotate_left
  · intro w hSw; (try dsimp only at hSw); go_simp; (try (with_reducible rfl))
  try simp only [List.getElem_toArray, List.getElem_cons_succ, List.getElem_cons_zero, Act.put, List.setIfInBounds_toArray, List.set_cons_zero, List.set_cons_succ]
  refine wpAnyH_take (i := 25) (v := ?_) rfl (by kernel_rfl) (by kernel_rfl) (by kernel_rfl) (fun _ _ _ h => h) (Or.inl ⟨by rfl, ?_⟩) (by assumption) ?_
  rotate_left
  · intro w hSw; (try dsimp only at hSw); go_simp; (try (with_reducible rfl))
  try simp only [List.getElem_toArray, List.getElem_cons_succ, List.getElem_cons_zero, Act.put, List.setIfInBounds_toArray, List.set_cons_zero, List.set_cons_succ]
  refine wpAnyH_take (i := 26) (v := ?_) rfl (by kernel_rfl) (by kernel_rfl) (by kernel_rfl) (fun _ _ _ h => h) (Or.inl ⟨by rfl, ?_⟩) (by assumption) ?_
  rotate_left
  · intro w hSw; (try dsimp only at hSw); go_simp; (try (with_reducible rfl))
  try simp only [List.getElem_toArray, List.getElem_cons_succ, List.getElem_cons_zero, Act.put, List.setIfInBounds_toArray, List.set_cons_zero, List.set_cons_succ]
  refine wpAnyH_take (i := 29) (v := ?_) rfl (by kernel_rfl) (by kernel_rfl) (by kernel_rfl) (fun _ _ _ h => h) (Or.inl ⟨by rfl, ?_⟩) (by assumption) ?_
  rotate_left
  · intro w hSw; (try dsimp only at hSw); go_simp; (try (with_reducible rfl))
  try simp only [List.getElem_toArray, List.getElem_cons_succ, List.getElem_cons_zero, Act.put, List.setIfInBounds_toArray, List.set_cons_zero, List.set_cons_succ]
  refine wpAnyH_take (i := 30) (v := ?_) rfl (by kernel_rfl) (by kernel_rfl) (by kernel_rfl) (fun _ _ _ h => h) (Or.inl ⟨by rfl, ?_⟩) (by assumption) ?_
  rotate_left
  · intro w hSw; (try dsimp only at hSw); go_simp; (try (with_reducible rfl))
  try simp only [List.getElem_toArray, List.getElem_cons_succ, List.getElem_cons_zero, Act.put, List.setIfInBounds_toArray, List.set_cons_zero, List.set_cons_succ]
  refine wpAnyH_take (i := 31) (v := ?_) rfl (by kernel_rfl) (by kernel_rfl) (by kernel_rfl) (fun _ _ _ h => h) (Or.inl ⟨by rfl, ?_⟩) (by assumption) ?_
  rotate_left
  · intro w hSw; (try dsimp only at hSw); go_simp; (try (with_reducible rfl))
  try simp only [List.getElem_toArray, List.getElem_cons_succ, List.getElem_cons_zero, Act.put, List.setIfInBounds_toArray, List.set_cons_zero, List.set_cons_succ]
  refine wpAnyH_take (i := 32) (v := ?_) rfl (by kernel_rfl) (by kernel_rfl) (by kernel_rfl) (fun _ _ _ h => h) (Or.inl ⟨by rfl, ?_⟩) (by assumption) ?_
  rotate_left
  · intro w hSw; (try dsimp only at hSw); go_simp; (try (with_reducible rfl))
  try simp only [List.getElem_toArray, List.getElem_cons_succ, List.getElem_cons_zero, Act.put, List.setIfInBounds_toArray, List.set_cons_zero, List.set_cons_succ]
  refine wpAnyH_take (i := 33) (v := ?_) rfl (by kernel_rfl) (by kernel_rfl) (by kernel_rfl) (fun _ _ _ h => h) (Or.inl ⟨by rfl, ?_⟩) (by assumption) ?_
  rotate_left
  · intro w hSw; (try dsimp only at hSw); go_simp; (try (with_reducible rfl))
  try simp only [List.getElem_toArray, List.getElem_cons_succ, List.getElem_cons_zero, Act.put, List.setIfInBounds_toArray, List.set_cons_zero, List.set_cons_succ]
  refine wpAnyH_ready (rs := [10]) (by kernel_rfl) (by simp) ?_
  refine AllReadyH.cons rfl (fun K hK => ?_) AllReadyH.nil
  go_simp
  go_at_call 25
  refine (when_any _ _ _).mono ?_
  rintro e w' ⟨rfl, rfl⟩
  go_wp2_with fail
  refine hK.out _ _ (KEEP.out _ B1.out) (fun hHeld => ?_)
  clear hK K
  try simp only [List.getElem_toArray, List.getElem_cons_succ, List.getElem_cons_zero, Act.put, List.setIfInBounds_toArray, List.set_cons_zero, List.set_cons_succ]
  first | rw [hn12] | rw [hn12n] | skip
  refine wpAnyH_take (i := 15) (v := ?_) rfl (by kernel_rfl) (by kernel_rfl) (by kernel_rfl) (fun _ _ _ h => h) (Or.inl ⟨by rfl, ?_⟩) (by assumption) ?_
  rotate_left
  · intro w hSw; (try dsimp only at hSw); go_simp; (try (with_reducible rfl))
  try simp only [List.getElem_toArray, List.getElem_cons_succ, List.getElem_cons_zero, Act.put, List.setIfInBounds_toArray, List.set_cons_zero, List.set_cons_succ]
  refine wpAnyH_take (i := 16) (v := ?_) rfl (by kernel_rfl) (by kernel_rfl) (by kernel_rfl) (fun _ _ _ h => h) (Or.inl ⟨by rfl, ?_⟩) (by assumption) ?_
  rotate_left
  · intro w hSw; (try dsimp only at hSw); go_simp; (try (with_reducible rfl))
  try simp only [List.getElem_toArray, List.getElem_cons_succ, List.getElem_cons_zero, Act.put, List.setIfInBounds_toArray, List.set_cons_zero, List.set_cons_succ]
  refine wpAnyH_take (i := 17) (v := ?_) rfl (by kernel_rfl) (by kernel_rfl) (by kernel_rfl) (fun _ _ _ h => h) (Or.inl ⟨by rfl, ?_⟩) (by assumption) ?_
  rotate_left
  · intro w hSw; (try dsimp only at hSw); go_simp; (try (with_reducible rfl))
  try simp only [List.getElem_toArray, List.getElem_cons_succ, List.getElem_cons_zero, Act.put, List.setIfInBounds_toArray, List.set_cons_zero, List.set_cons_succ]
  refine wpAnyH_take (i := 18) (v := ?_) rfl (by kernel_rfl) (by kernel_rfl) (by kernel_rfl) (fun _ _ _ h => h) (Or.inl ⟨by rfl, ?_⟩) (by assumption) ?_
  rotate_left
  · intro w hSw; (try dsimp only at hSw); go_simp; (try (with_reducible rfl))
  try simp only [List.getElem_toArray, List.getElem_cons_succ, List.getElem_cons_zero, Act.put, List.setIfInBounds_toArray, List.set_cons_zero, List.set_cons_succ]
  refine wpAnyH_take (i := 19) (v := ?_) rfl (by kernel_rfl) (by kernel_rfl) (by kernel_rfl) (fun _ _ _ h => h) (Or.inl ⟨by rfl, ?_⟩) (by assumption) ?_
  rotate_left
  · intro w hSw; (try dsimp only at hSw); go_simp; (try (with_reducible rfl))
  try simp only [List.getElem_toArray, List.getElem_cons_succ, List.getElem_cons_zero, Act.put, List.setIfInBounds_toArray, List.set_cons_zero, List.set_cons_succ]
  refine wpAnyH_take (i := 20) (v := ?_) rfl (by kernel_rfl) (by kernel_rfl) (by kernel_rfl) (fun _ _ _ h => h) (Or.inl ⟨by rfl, ?_⟩) (by assumption) ?_
  rotate_left
  · intro w hSw; (try dsimp only at hSw); go_simp; (try (with_reducible rfl))
  try simp only [List.getElem_toArray, List.getElem_cons_succ, List.getElem_cons_zero, Act.put, List.setIfInBounds_toArray, List.set_cons_zero, List.set_cons_succ]
  refine wpAnyH_ready (rs := [21]) (by kernel_rfl) (by simp) ?_
  refine AllReadyH.cons rfl (fun K hK => ?_) AllReadyH.nil
  go_simp
  go_at_call 25
  refine (when_any _ _ _).mono ?_
  rintro e w' ⟨rfl, rfl⟩
  go_wp2_with fail
  refine hK.out _ _ (KEEP.out _ B1.out) (fun hHeld => ?_)
  clear hK K
  try simp only [List.getElem_toArray, List.getElem_cons_succ, List.getElem_cons_zero, Act.put, List.setIfInBounds_toArray, List.set_cons_zero, List.set_cons_succ]
  refine wpAnyH_ready (rs := [27]) (by kernel_rfl) (by simp) ?_
  refine AllReadyH.cons rfl (fun K hK => ?_) AllReadyH.nil
  go_simp
  go_at_call 39
  refine (ascBelow_any _ _).mono ?_
  rintro e w' ⟨rfl, rfl⟩
  go_wp2_with fail
  refine hK.out _ _ (KEEP.out _ ((B1.out.alloc B1.out.size _).alloc (by have := B1.out.size; first | omega | (simp; done) | (simp; omega)) _)) (fun hHeld => ?_)
  clear hK K
  try simp only [List.getElem_toArray, List.getElem_cons_succ, List.getElem_cons_zero, Act.put, List.setIfInBounds_toArray, List.set_cons_zero, List.set_cons_succ]
  refine wpAnyH_ready (rs := [28]) (by kernel_rfl) (by simp) ?_
  refine AllReadyH.cons rfl (fun K hK => ?_) AllReadyH.nil
  go_simp
  go_at_call 38
  refine (CAS.out C l _ ld n _ RC.out (by omega) B1.out).mono ?_
  rintro e w3 ⟨rfl, hb3⟩
  have B3 := Lib.hid hb3
  clear hb3
  go_wp2_with fail
  refine hK.out _ _ (KEEP.out _ B3.out) (fun hHeld => ?_)
  clear hK K
  try simp only [List.getElem_toArray, List.getElem_cons_succ, List.getElem_cons_zero, Act.put, List.setIfInBounds_toArray, List.set_cons_zero, List.set_cons_succ]
  refine wpAnyH_ready (rs := [34]) (by kernel_rfl) (by simp) ?_
  refine AllReadyH.cons rfl (fun K hK => ?_) AllReadyH.nil
  go_simp
  go_at_call 39
  refine (ascBelow_any _ _).mono ?_
  rintro e w' ⟨rfl, rfl⟩
  go_wp2_with fail
  refine hK.out _ _ (KEEP.out _ ((B3.out.alloc B3.out.size _).alloc (by have := B3.out.size; first | omega | (simp; done) | (simp; omega)) _)) (fun hHeld => ?_)
  clear hK K
  try simp only [List.getElem_toArray, List.getElem_cons_succ, List.getElem_cons_zero, Act.put, List.setIfInBounds_toArray, List.set_cons_zero, List.set_cons_succ]
  refine wpAnyH_ready (rs := [35]) (by kernel_rfl) (by simp) ?_
  refine AllReadyH.cons rfl (fun K hK => ?_) AllReadyH.nil
  go_simp
  go_at_call 38
  refine (CAS.out D r _ lp m _ RD.out (by omega) B3.out).mono ?_
  rintro e w4 ⟨rfl, hb4⟩
  have B4 := Lib.hid hb4
  clear hb4
  go_wp2_with fail
  refine hK.out _ _ (KEEP.out _ B4.out) (fun hHeld => ?_)
  clear hK K
  try simp only [List.getElem_toArray, List.getElem_cons_succ, List.getElem_cons_zero, Act.put, List.setIfInBounds_toArray, List.set_cons_zero, List.set_cons_succ]
  refine wpAnyH_ready (rs := [36]) (by kernel_rfl) (by simp) ?_
  refine AllReadyH.cons rfl (fun K hK => ?_) AllReadyH.nil
  go_simp
  refine hK.out _ _ (KEEP.out _ (B4.out.alloc B4.out.size _)) (fun hHeld => ?_)
  clear hK K
  try simp only [List.getElem_toArray, List.getElem_cons_succ, List.getElem_cons_zero, Act.put, List.setIfInBounds_toArray, List.set_cons_zero, List.set_cons_succ]
  refine wpAnyH_ready (rs := [37]) (by kernel_rfl) (by simp) ?_
  refine AllReadyH.cons rfl (fun K hK => ?_) AllReadyH.nil
  go_simp
  go_at_call 24
  refine (first4 _ _ _ _ _).mono ?_
  rw [HF.out]
  rintro e w' ⟨rfl, rfl⟩
  go_wp2_with fail
  refine hK.out _ _ (KEEP.out _ (B4.out.alloc B4.out.size _)) (fun hHeld => ?_)
  clear hK K
  try simp only [List.getElem_toArray, List.getElem_cons_succ, List.getElem_cons_zero, Act.put, List.setIfInBounds_toArray, List.set_cons_zero, List.set_cons_succ]
  refine wpAnyH_take (i := 38) (v := ?_) rfl (by kernel_rfl) (by kernel_rfl) (by kernel_rfl) (fun _ _ _ h => h) (Or.inl ⟨by rfl, ?_⟩) (by assumption) ?_
  rotate_left
  · intro w hSw; (try dsimp only at hSw); go_simp; (try (with_reducible rfl))
  try simp only [List.getElem_toArray, List.getElem_cons_succ, List.getElem_cons_zero, Act.put, List.setIfInBounds_toArray, List.set_cons_zero, List.set_cons_succ]
  refine wpAnyH_done (by kernel_rfl) ?_ _
  have hEn : (grp1E n m ld lp != 0) = true := by simpa using hE
  have HGE : Hid (grpE n m ds ps ld lp = grp1E n m ld lp) := if_neg hE
  have B9 := Lib.hid (HB1.out.trans ((B4.out.alloc B4.out.size (.cells #[.int .i64 (whenE ((m : Int) == 0) 10), .int .i64 (whenE (decide ((4 : Int) < (m : Int))) 8), .int .i64 (lostE n (-1) ld), .int .i64 (lostE m (-1) lp)] 27)).mono HB1.out.size))
  clear hE
  go_wp2
  go_ret
  exact ⟨by rw [HGE.out]; rfl, B9.out⟩
set_option maxRecDepth 100000 in
set_option maxHeartbeats 8000000 in
theorem cgr_ok (A B C D : Option Addr) (n m l r ca cb cc cd : Nat) (ds ps : List (List Int)) (ld lp : List Int) (w : World) (hA : RdD w A n ds) (hB : RdD w B m ps) (hC : RdI w C l ld) (hD : RdI w D r lp) (hn : n ≤ 1000) (hm : m ≤ 1000) (hl : l ≤ 1000) (hr : r ≤ 1000) (h0 : 0 < n) (h12 : n ≤ 12) (hE : grp1E n m ld lp = 0) :
    Calls Tryd.prog 15 #[.agg #[.slice A n ca, .slice B m cb, .slice C l cc, .slice D r cd]] w fun e w' => e = .returned (.int .i64 (grpE n m ds ps ld lp)) ∧ Below w.heap.size w w' := by
  have hn0 : ((n : Int) == 0) = false := by simp; try omega
  have hn12 : decide ((12 : Int) < (n : Int)) = false := by simp; omega
  have hn12n : decide (12 < n) = false := by simp; omega
  have e1 : (decide (n = 0) || decide (m = 0)) = ((m : Int) == 0) := by rw [decide_eq_false (show ¬ n = 0 by omega), Bool.false_or]; by_cases h : m = 0 <;> simp [h]
  have e2 : (decide (12 < n) || decide (4 < m)) = (decide ((4 : Int) < (m : Int))) := by rw [decide_eq_false (show ¬ 12 < n by omega), Bool.false_or]; exact decide_eq_decide.2 (by omega)
  have HF : Hid (firstE [whenE ((m : Int) == 0) 10, whenE (decide ((4 : Int) < (m : Int))) 8, lostE n (-1) ld, lostE m (-1) lp] = grp1E n m ld lp) := by
    show _ = _
    unfold grp1E
    rw [e1, e2]
  obtain ⟨w1, hw1⟩ : ∃ W, w.alloc (.cells #[.slice A n ca, .slice B m cb, .slice C l cc, .slice D r cd] 33) = W := ⟨_, rfl⟩
  have b1 : Below w.heap.size w w1 := by rw [← hw1]; exact (Below.refl _ _).alloc (Nat.le_refl _) _
  have HBK : Hid (Bk w1 w.heap.size 33 #[.slice A n ca, .slice B m cb, .slice C l cc, .slice D r cd]) := by show Bk _ _ _ _; rw [← hw1]; exact Bk.new _ _ _
  have HB1 := Lib.hid b1
  have HW1 := Lib.hid hw1
  have KEEP : Hid (∀ W, Below w1.heap.size w1 W → W.cell? ⟨w.heap.size, 0, none⟩ = some (.slice A n ca) ∧ W.cell? ⟨w.heap.size, 1, none⟩ = some (.slice B m cb) ∧ W.cell? ⟨w.heap.size, 2, none⟩ = some (.slice C l cc) ∧ W.cell? ⟨w.heap.size, 3, none⟩ = some (.slice D r cd)) := fun W hW => bk4 (HBK.out.below hW HBK.out.lt)
  have RC : Hid (∀ W, Below w1.heap.size w1 W → RdI W C l ld) := fun W hW => (hC.below HB1.out).below hW
  have RD : Hid (∀ W, Below w1.heap.size w1 W → RdI W D r lp) := fun W hW => (hD.below HB1.out).below hW
  have RA : Hid (∀ W, Below w1.heap.size w1 W → RdD W A n ds) := fun W hW => (hA.below HB1.out).below hW
  have RB : Hid (∀ W, Below w1.heap.size w1 W → RdD W B m ps) := fun W hW => (hB.below HB1.out).below hW
  have CAS : Hid (∀ (X : Option Addr) (q c : Nat) (xs : List Int) (k : Nat) (W : World), (∀ V, Below w1.heap.size w1 V → RdI V X q xs) → q ≤ 1000000 → Below w1.heap.size w1 W → Calls Tryd.prog 38 #[.slice X q c, .func (Fn.func 64) #[] #[.pointer (some ⟨W.heap.size, 0, none⟩), .pointer (some ⟨W.heap.size + 1, 0, none⟩)]] ((W.alloc (.cells #[.int .i64 (k : Int)] 3)).alloc (.cells #[.int .i64 (-1)] 3))
      fun e w' => e = .returned (.int .i64 (lostE k (-1) xs)) ∧ Below w1.heap.size w1 w') := fun X q c xs k W hX hq hW => by
    have hb2 : Below w1.heap.size w1 ((W.alloc (.cells #[.int .i64 (k : Int)] 3)).alloc (.cells #[.int .i64 (-1)] 3)) := (hW.alloc hW.size _).alloc (by have := hW.size; simp; omega) _
    refine (checkEachAsc_any X q c xs k (-1) W.heap.size (W.heap.size + 1) _ (fun V hV => hX V (hb2.trans (hV.mono (by have := hW.size; omega)))) hq ?_ ?_ (by omega)).mono ?_
    · rw [((Bk.new W 3 #[.int .i64 (k : Int)]).alloc _).cell]; rfl
    · simpa using Bk.new (W.alloc (.cells #[.int .i64 (k : Int)] 3)) 3 #[.int .i64 (-1)]
    · rintro e w' ⟨he, hb⟩
      exact ⟨he, hb2.trans (hb.mono (by have := hW.size; omega))⟩
  have B1 : Hid (Below w1.heap.size w1 w1.drew) := (Below.refl _ _).drew
  clear b1 hw1 hA hB hC hD e1 e2 h0 h12
  go_enter Tryd.func15, Tryd.ntmps15
  go_upto_region 1 with fail
  rw [show w.alloc (.cells #[.slice A n ca, .slice B m cb, .slice C l cc, .slice D r cd] 33) = w1 from HW1.out]
  refine wp_region_held_drew (S := (fun w' : World => w'.cell? ⟨w.heap.size, 0, none⟩ = some (.slice A n ca) ∧ w'.cell? ⟨w.heap.size, 1, none⟩ = some (.slice B m cb) ∧ w'.cell? ⟨w.heap.size, 2, none⟩ = some (.slice C l cc) ∧ w'.cell? ⟨w.heap.size, 3, none⟩ = some (.slice D r cd))) (by kernel_rfl) (KEEP.out _ (Below.refl _ _).drew) ?_
  intro hHeld
  refine wpAnyH_take (i := 0) (v := ?_) rfl (by kernel_rfl) (by kernel_rfl) (by kernel_rfl) (fun _ _ _ h => h) (Or.inl ⟨by rfl, ?_⟩) (by assumption) ?_
  rotate_left
  · intro w hSw; (try dsimp only at hSw); go_simp; (try (with_reducible rfl))
  try simp only [List.getElem_toArray, List.getElem_cons_succ, List.getElem_cons_zero, Act.put, List.setIfInBounds_toArray, List.set_cons_zero, List.set_cons_succ]
  refine wpAnyH_take (i := 1) (v := ?_) rfl (by kernel_rfl) (by kernel_rfl) (by kernel_rfl) (fun _ _ _ h => h) (Or.inl ⟨by rfl, ?_⟩) (by assumption) ?_
  rotate_left
  · intro w hSw; (try dsimp only at hSw); go_simp; (try (with_reducible rfl))
  try simp only [List.getElem_toArray, List.getElem_cons_succ, List.getElem_cons_zero, Act.put, List.setIfInBounds_toArray, List.set_cons_zero, List.set_cons_succ]
  refine wpAnyH_take (i := 2) (v := ?_) rfl (by kernel_rfl) (by kernel_rfl) (by kernel_rfl) (fun _ _ _ h => h) (Or.inl ⟨by rfl, ?_⟩) (by assumption) ?_
  rotate_left
  · intro w hSw; (try dsimp only at hSw); go_simp; (try (with_reducible rfl))
  try simp only [List.getElem_toArray, List.getElem_cons_succ, List.getElem_cons_zero, Act.put, List.setIfInBounds_toArray, List.set_cons_zero, List.set_cons_succ]
  refine wpAnyH_take (i := 3) (v := ?_) rfl (by kernel_rfl) (by kernel_rfl) (by kernel_rfl) (fun _ _ _ h => h) (Or.inl ⟨by rfl, ?_⟩) (by assumption) ?_
  rotate_left
  · intro w hSw; (try dsimp only at hSw); go_simp; (try (with_reducible rfl))
  try simp only [List.getElem_toArray, List.getElem_cons_succ, List.getElem_cons_zero, Act.put, List.setIfInBounds_toArray, List.set_cons_zero, List.set_cons_succ]
  first | rw [hn0] | skip
  refine wpAnyH_take (i := 4) (v := ?_) rfl (by kernel_rfl) (by kernel_rfl) (by kernel_rfl) (fun _ _ _ h => h) (Or.inl ⟨by rfl, ?_⟩) (by assumption) ?_
  rotate_left
  · intro w hSw; (try dsimp only at hSw); go_simp; (try (with_reducible rfl))
  try simp only [List.getElem_toArray, List.getElem_cons_succ, List.getElem_cons_zero, Act.put, List.setIfInBounds_toArray, List.set_cons_zero, List.set_cons_succ]
  refine wpAnyH_take (i := 5) (v := ?_) rfl (by kernel_rfl) (by kernel_rfl) (by kernel_rfl) (fun _ _ _ h => h) (Or.inl ⟨by rfl, ?_⟩) (by assumption) ?_
  rotate_left
  · intro w hSw; (try dsimp only at hSw); go_simp; (try (with_reducible rfl))
  try simp only [List.getElem_toArray, List.getElem_cons_succ, List.getElem_cons_zero, Act.put, List.setIfInBounds_toArray, List.set_cons_zero, List.set_cons_succ]
  refine wpAnyH_take (i := 6) (v := ?_) rfl (by kernel_rfl) (by kernel_rfl) (by kernel_rfl) (fun _ _ _ h => h) (Or.inl ⟨by rfl, ?_⟩) (by assumption) ?_
  rotate_left
  · intro w hSw; (try dsimp only at hSw); go_simp; (try (with_reducible rfl))
  try simp only [List.getElem_toArray, List.getElem_cons_succ, List.getElem_cons_zero, Act.put, List.setIfInBounds_toArray, List.set_cons_zero, List.set_cons_succ]
  refine wpAnyH_take (i := 7) (v := ?_) rfl (by kernel_rfl) (by kernel_rfl) (by kernel_rfl) (fun _ _ _ h => h) (Or.inl ⟨by rfl, ?_⟩) (by assumption) ?_
  rotate_left
  · intro w hSw; (try dsimp only at hSw); go_simp; (try (with_reducible rfl))
  try simp only [List.getElem_toArray, List.getElem_cons_succ, List.getElem_cons_zero, Act.put, List.setIfInBounds_toArray, List.set_cons_zero, List.set_cons_succ]
  refine wpAnyH_take (i := 8) (v := ?_) rfl (by kernel_rfl) (by kernel_rfl) (by kernel_rfl) (fun _ _ _ h => h) (Or.inl ⟨by rfl, ?_⟩) (by assumption) ?_
  rotate_left
  · intro w hSw; (try dsimp only at hSw); go_simp; (try (with_reducible rfl))
  try simp only [List.getElem_toArray, List.getElem_cons_succ, List.getElem_cons_zero, Act.put, List.setIfInBounds_toArray, List.set_cons_zero, List.set_cons_succ]
  refine wpAnyH_take (i := 9) (v := ?_) rfl (by kernel_rfl) (by kernel_rfl) (by kernel_rfl) (fun _ _ _ h => h) (Or.inl ⟨by rfl, ?_⟩) (by assumption) ?_
  rotate_left
  · intro w hSw; (try dsimp only at hSw); go_simp; (try (with_reducible rfl))
  try simp only [List.getElem_toArray, List.getElem_cons_succ, List.getElem_cons_zero, Act.put, List.setIfInBounds_toArray, List.set_cons_zero, List.set_cons_succ]
  refine wpAnyH_take (i := 11) (v := ?_) rfl (by kernel_rfl) (by kernel_rfl) (by kernel_rfl) (fun _ _ _ h => h) (Or.inl ⟨by rfl, ?_⟩) (by assumption) ?_
  rotate_left
  · intro w hSw; (try dsimp only at hSw); go_simp; (try (with_reducible rfl))
  try simp only [List.getElem_toArray, List.getElem_cons_succ, List.getElem_cons_zero, Act.put, List.setIfInBounds_toArray, List.set_cons_zero, List.set_cons_succ]
  refine wpAnyH_take (i := 12) (v := ?_) rfl (by kernel_rfl) (by kernel_rfl) (by kernel_rfl) (fun _ _ _ h => h) (Or.inl ⟨by rfl, ?_⟩) (by assumption) ?_
  rotate_left
  · intro w hSw; (try dsimp only at hSw); go_simp; (try (with_reducible rfl))
  try simp only [List.getElem_toArray, List.getElem_cons_succ, List.getElem_cons_zero, Act.put, List.setIfInBounds_toArray, List.set_cons_zero, List.set_cons_succ]
  refine wpAnyH_take (i := 13) (v := ?_) rfl (by kernel_rfl) (by kernel_rfl) (by kernel_rfl) (fun _ _ _ h => h) (Or.inl ⟨by rfl, ?_⟩) (by assumption) ?_
  rotate_left
  · intro w hSw; (try dsimp only at hSw); go_simp; (try (with_reducible rfl))
  try simp only [List.getElem_toArray, List.getElem_cons_succ, List.getElem_cons_zero, Act.put, List.setIfInBounds_toArray, List.set_cons_zero, List.set_cons_succ]
  refine wpAnyH_take (i := 14) (v := ?_) rfl (by kernel_rfl) (by kernel_rfl) (by kernel_rfl) (fun _ _ _ h => h) (Or.inl ⟨by rfl, ?_⟩) (by assumption) ?_
  rotate_left
  · intro w hSw; (try dsimp only at hSw); go_simp; (try (with_reducible rfl))
  try simp only [List.getElem_toArray, List.getElem_cons_succ, List.getElem_cons_zero, Act.put, List.setIfInBounds_toArray, List.set_cons_zero, List.set_cons_succ]
  refine wpAnyH_take (i := 22) (v := ?_) rfl (by kernel_rfl) (by kernel_rfl) (by kernel_rfl) (fun _ _ _ h => h) (Or.inl ⟨by rfl, ?_⟩) (by assumption) ?_
  rotate_left
  · intro w hSw; (try dsimp only at hSw); go_simp; (try (with_reducible rfl))
  try simp only [List.getElem_toArray, List.getElem_cons_succ, List.getElem_cons_zero, Act.put, List.setIfInBounds_toArray, List.set_cons_zero, List.set_cons_succ]
  refine wpAnyH_take (i := 23) (v := ?_) rfl (by kernel_rfl) (by kernel_rfl) (by kernel_rfl) (fun _ _ _ h => h) (Or.inl ⟨by rfl, ?_⟩) (by assumption) ?_
  rotate_left
  · intro w hSw; (try dsimp only at hSw); go_simp; (try (with_reducible rfl))
  try simp only [List.getElem_toArray, List.getElem_cons_succ, List.getElem_cons_zero, Act.put, List.setIfInBounds_toArray, List.set_cons_zero, List.set_cons_succ]
  refine wpAnyH_take (i := 24) (v := ?_) rfl (by kernel_rfl) (by kernel_rfl) (by kernel_rfl) (fun _ _ _ h => h) (Or.inl ⟨by rfl, ?_⟩) (by assumption) ?_
  rotate_left
  · intro w hSw; (try dsimp only at hSw); go_simp; (try (with_reducible rfl))
  try simp only [List.getElem_toArray, List.getElem_cons_succ, List.getElem_cons_zero, Act.put, List.setIfInBounds_toArray, List.set_cons_zero, List.set_cons_succ]
  refine wpAnyH_take (i := 25) (v := ?_) rfl (by kernel_rfl) (by kernel_rfl) (by kernel_rfl) (fun _ _ _ h => h) (Or.inl ⟨by rfl, ?_⟩) (by assumption) ?_
  rotate_left
  · intro w hSw; (try dsimp only at hSw); go_simp; (try (with_reducible rfl))
  try simp only [List.getElem_toArray, List.getElem_cons_succ, List.getElem_cons_zero, Act.put, List.setIfInBounds_toArray, List.set_cons_zero, List.set_cons_succ]
  refine wpAnyH_take (i := 26) (v := ?_) rfl (by kernel_rfl) (by kernel_rfl) (by kernel_rfl) (fun _ _ _ h => h) (Or.inl ⟨by rfl, ?_⟩) (by assumption) ?_
  rotate_left
  · intro w hSw; (try dsimp only at hSw); go_simp; (try (with_reducible rfl))
  try simp only [List.getElem_toArray, List.getElem_cons_succ, List.getElem_cons_zero, Act.put, List.setIfInBounds_toArray, List.set_cons_zero, List.set_cons_succ]
  refine wpAnyH_take (i := 29) (v := ?_) rfl (by kernel_rfl) (by kernel_rfl) (by kernel_rfl) (fun _ _ _ h => h) (Or.inl ⟨by rfl, ?_⟩) (by assumption) ?_
  rotate_left
  · intro w hSw; (try dsimp only at hSw); go_simp; (try (with_reducible rfl))
  try simp only [List.getElem_toArray, List.getElem_cons_succ, List.getElem_cons_zero, Act.put, List.setIfInBounds_toArray, List.set_cons_zero, List.set_cons_succ]
  refine wpAnyH_take (i := 30) (v := ?_) rfl (by kernel_rfl) (by kernel_rfl) (by kernel_rfl) (fun _ _ _ h => h) (Or.inl ⟨by rfl, ?_⟩) (by assumption) ?_
  rotate_left
  · intro w hSw; (try dsimp only at hSw); go_simp; (try (with_reducible rfl))
  try simp only [List.getElem_toArray, List.getElem_cons_succ, List.getElem_cons_zero, Act.put, List.setIfInBounds_toArray, List.set_cons_zero, List.set_cons_succ]
  refine wpAnyH_take (i := 31) (v := ?_) rfl (by kernel_rfl) (by kernel_rfl) (by kernel_rfl) (fun _ _ _ h => h) (Or.inl ⟨by rfl, ?_⟩) (by assumption) ?_
  rotate_left
  · intro w hSw; (try dsimp only at hSw); go_simp; (try (with_reducible rfl))
  try simp only [List.getElem_toArray, List.getElem_cons_succ, List.getElem_cons_zero, Act.put, List.setIfInBounds_toArray, List.set_cons_zero, List.set_cons_succ]
  refine wpAnyH_take (i := 32) (v := ?_) rfl (by kernel_rfl) (by kernel_rfl) (by kernel_rfl) (fun _ _ _ h => h) (Or.inl ⟨by rfl, ?_⟩) (by assumption) ?_
  rotate_left
  · intro w hSw; (try dsimp only at hSw); go_simp; (try (with_reducible rfl))
  try simp only [List.getElem_toArray, List.getElem_cons_succ, List.getElem_cons_zero, Act.put, List.setIfInBounds_toArray, List.set_cons_zero, List.set_cons_succ]
  refine wpAnyH_take (i := 33) (v := ?_) rfl (by kernel_rfl) (by kernel_rfl) (by kernel_rfl) (fun _ _ _ h => h) (Or.inl ⟨by rfl, ?_⟩) (by assumption) ?_
  rotate_left
  · intro w hSw; (try dsimp only at hSw); go_simp; (try (with_reducible rfl))
  try simp only [List.getElem_toArray, List.getElem_cons_succ, List.getElem_cons_zero, Act.put, List.setIfInBounds_toArray, List.set_cons_zero, List.set_cons_succ]
  refine wpAnyH_ready (rs := [10]) (by kernel_rfl) (by simp) ?_
  refine AllReadyH.cons rfl (fun K hK => ?_) AllReadyH.nil
  go_simp
  go_at_call 25
  refine (when_any _ _ _).mono ?_
  rintro e w' ⟨rfl, rfl⟩
  go_wp2_with fail
  refine hK.out _ _ (KEEP.out _ B1.out) (fun hHeld => ?_)
  clear hK K
  try simp only [List.getElem_toArray, List.getElem_cons_succ, List.getElem_cons_zero, Act.put, List.setIfInBounds_toArray, List.set_cons_zero, List.set_cons_succ]
  first | rw [hn12] | rw [hn12n] | skip
  refine wpAnyH_take (i := 15) (v := ?_) rfl (by kernel_rfl) (by kernel_rfl) (by kernel_rfl) (fun _ _ _ h => h) (Or.inl ⟨by rfl, ?_⟩) (by assumption) ?_
  rotate_left
  · intro w hSw; (try dsimp only at hSw); go_simp; (try (with_reducible rfl))
  try simp only [List.getElem_toArray, List.getElem_cons_succ, List.getElem_cons_zero, Act.put, List.setIfInBounds_toArray, List.set_cons_zero, List.set_cons_succ]
  refine wpAnyH_take (i := 16) (v := ?_) rfl (by kernel_rfl) (by kernel_rfl) (by kernel_rfl) (fun _ _ _ h => h) (Or.inl ⟨by rfl, ?_⟩) (by assumption) ?_
  rotate_left
  · intro w hSw; (try dsimp only at hSw); go_simp; (try (with_reducible rfl))
  try simp only [List.getElem_toArray, List.getElem_cons_succ, List.getElem_cons_zero, Act.put, List.setIfInBounds_toArray, List.set_cons_zero, List.set_cons_succ]
  refine wpAnyH_take (i := 17) (v := ?_) rfl (by kernel_rfl) (by kernel_rfl) (by kernel_rfl) (fun _ _ _ h => h) (Or.inl ⟨by rfl, ?_⟩) (by assumption) ?_
  rotate_left
  · intro w hSw; (try dsimp only at hSw); go_simp; (try (with_reducible rfl))
  try simp only [List.getElem_toArray, List.getElem_cons_succ, List.getElem_cons_zero, Act.put, List.setIfInBounds_toArray, List.set_cons_zero, List.set_cons_succ]
  refine wpAnyH_take (i := 18) (v := ?_) rfl (by kernel_rfl) (by kernel_rfl) (by kernel_rfl) (fun _ _ _ h => h) (Or.inl ⟨by rfl, ?_⟩) (by assumption) ?_
  rotate_left
  · intro w hSw; (try dsimp only at hSw); go_simp; (try (with_reducible rfl))
  try simp only [List.getElem_toArray, List.getElem_cons_succ, List.getElem_cons_zero, Act.put, List.setIfInBounds_toArray, List.set_cons_zero, List.set_cons_succ]
  refine wpAnyH_take (i := 19) (v := ?_) rfl (by kernel_rfl) (by kernel_rfl) (by kernel_rfl) (fun _ _ _ h => h) (Or.inl ⟨by rfl, ?_⟩) (by assumption) ?_
  rotate_left
  · intro w hSw; (try dsimp only at hSw); go_simp; (try (with_reducible rfl))
  try simp only [List.getElem_toArray, List.getElem_cons_succ, List.getElem_cons_zero, Act.put, List.setIfInBounds_toArray, List.set_cons_zero, List.set_cons_succ]
  refine wpAnyH_take (i := 20) (v := ?_) rfl (by kernel_rfl) (by kernel_rfl) (by kernel_rfl) (fun _ _ _ h => h) (Or.inl ⟨by rfl, ?_⟩) (by assumption) ?_
  rotate_left
  · intro w hSw; (try dsimp only at hSw); go_simp; (try (with_reducible rfl))
  try simp only [List.getElem_toArray, List.getElem_cons_succ, List.getElem_cons_zero, Act.put, List.setIfInBounds_toArray, List.set_cons_zero, List.set_cons_succ]
  refine wpAnyH_ready (rs := [21]) (by kernel_rfl) (by simp) ?_
  refine AllReadyH.cons rfl (fun K hK => ?_) AllReadyH.nil
  go_simp
  go_at_call 25
  refine (when_any _ _ _).mono ?_
  rintro e w' ⟨rfl, rfl⟩
  go_wp2_with fail
  refine hK.out _ _ (KEEP.out _ B1.out) (fun hHeld => ?_)
  clear hK K
  try simp only [List.getElem_toArray, List.getElem_cons_succ, List.getElem_cons_zero, Act.put, List.setIfInBounds_toArray, List.set_cons_zero, List.set_cons_succ]
  refine wpAnyH_ready (rs := [27]) (by kernel_rfl) (by simp) ?_
  refine AllReadyH.cons rfl (fun K hK => ?_) AllReadyH.nil
  go_simp
  go_at_call 39
  refine (ascBelow_any _ _).mono ?_
  rintro e w' ⟨rfl, rfl⟩
  go_wp2_with fail
  refine hK.out _ _ (KEEP.out _ ((B1.out.alloc B1.out.size _).alloc (by have := B1.out.size; first | omega | (simp; done) | (simp; omega)) _)) (fun hHeld => ?_)
  clear hK K
  try simp only [List.getElem_toArray, List.getElem_cons_succ, List.getElem_cons_zero, Act.put, List.setIfInBounds_toArray, List.set_cons_zero, List.set_cons_succ]
  refine wpAnyH_ready (rs := [28]) (by kernel_rfl) (by simp) ?_
  refine AllReadyH.cons rfl (fun K hK => ?_) AllReadyH.nil
  go_simp
  go_at_call 38
  refine (CAS.out C l _ ld n _ RC.out (by omega) B1.out).mono ?_
  rintro e w3 ⟨rfl, hb3⟩
  have B3 := Lib.hid hb3
  clear hb3
  go_wp2_with fail
  refine hK.out _ _ (KEEP.out _ B3.out) (fun hHeld => ?_)
  clear hK K
  try simp only [List.getElem_toArray, List.getElem_cons_succ, List.getElem_cons_zero, Act.put, List.setIfInBounds_toArray, List.set_cons_zero, List.set_cons_succ]
  refine wpAnyH_ready (rs := [34]) (by kernel_rfl) (by simp) ?_
  refine AllReadyH.cons rfl (fun K hK => ?_) AllReadyH.nil
  go_simp
  go_at_call 39
  refine (ascBelow_any _ _).mono ?_
  rintro e w' ⟨rfl, rfl⟩
  go_wp2_with fail
  refine hK.out _ _ (KEEP.out _ ((B3.out.alloc B3.out.size _).alloc (by have := B3.out.size; first | omega | (simp; done) | (simp; omega)) _)) (fun hHeld => ?_)
  clear hK K
  try simp only [List.getElem_toArray, List.getElem_cons_succ, List.getElem_cons_zero, Act.put, List.setIfInBounds_toArray, List.set_cons_zero, List.set_cons_succ]
  refine wpAnyH_ready (rs := [35]) (by kernel_rfl) (by simp) ?_
  refine AllReadyH.cons rfl (fun K hK => ?_) AllReadyH.nil
  go_simp
  go_at_call 38
  refine (CAS.out D r _ lp m _ RD.out (by omega) B3.out).mono ?_
  rintro e w4 ⟨rfl, hb4⟩
  have B4 := Lib.hid hb4
  clear hb4
  go_wp2_with fail
  refine hK.out _ _ (KEEP.out _ B4.out) (fun hHeld => ?_)
  clear hK K
  try simp only [List.getElem_toArray, List.getElem_cons_succ, List.getElem_cons_zero, Act.put, List.setIfInBounds_toArray, List.set_cons_zero, List.set_cons_succ]
  refine wpAnyH_ready (rs := [36]) (by kernel_rfl) (by simp) ?_
  refine AllReadyH.cons rfl (fun K hK => ?_) AllReadyH.nil
  go_simp
  refine hK.out _ _ (KEEP.out _ (B4.out.alloc B4.out.size _)) (fun hHeld => ?_)
  clear hK K
  try simp only [List.getElem_toArray, List.getElem_cons_succ, List.getElem_cons_zero, Act.put, List.setIfInBounds_toArray, List.set_cons_zero, List.set_cons_succ]
  refine wpAnyH_ready (rs := [37]) (by kernel_rfl) (by simp) ?_
  refine AllReadyH.cons rfl (fun K hK => ?_) AllReadyH.nil
  go_simp
  go_at_call 24
  refine (first4 _ _ _ _ _).mono ?_
  rw [HF.out]
  rintro e w' ⟨rfl, rfl⟩
  go_wp2_with fail
  refine hK.out _ _ (KEEP.out _ (B4.out.alloc B4.out.size _)) (fun hHeld => ?_)
  clear hK K
  try simp only [List.getElem_toArray, List.getElem_cons_succ, List.getElem_cons_zero, Act.put, List.setIfInBounds_toArray, List.set_cons_zero, List.set_cons_succ]
  refine wpAnyH_take (i := 38) (v := ?_) rfl (by kernel_rfl) (by kernel_rfl) (by kernel_rfl) (fun _ _ _ h => h) (Or.inl ⟨by rfl, ?_⟩) (by assumption) ?_
  rotate_left
  · intro w hSw; (try dsimp only at hSw); go_simp; (try (with_reducible rfl))
  try simp only [List.getElem_toArray, List.getElem_cons_succ, List.getElem_cons_zero, Act.put, List.setIfInBounds_toArray, List.set_cons_zero, List.set_cons_succ]
  refine wpAnyH_done (by kernel_rfl) ?_ _
  have hEn : (grp1E n m ld lp != 0) = false := by simpa using hE
  have BA := Lib.hid (B4.out.alloc B4.out.size (.cells #[.int .i64 (whenE ((m : Int) == 0) 10), .int .i64 (whenE (decide ((4 : Int) < (m : Int))) 8), .int .i64 (lostE n (-1) ld), .int .i64 (lostE m (-1) lp)] 27))
  obtain ⟨q1, hq1⟩ : ∃ q, (kepL ld n).length = q := ⟨_, rfl⟩
  obtain ⟨q2, hq2⟩ : ∃ q, (kepL lp m).length = q := ⟨_, rfl⟩
  have hq1b : q1 ≤ 1000 := by have := kepL_len ld n; omega
  have hq2b : q2 ≤ 1000 := by have := kepL_len lp m; omega
  have CK1 : Hid (∀ W, RdI W C l ld → Calls Tryd.prog 30 #[.int .i64 (n : Int), .slice C l cc] W fun e w' => ∃ A3 c3, e = .returned (.slice A3 q1 c3) ∧ RdI w' A3 q1 (kepL ld n) ∧ Below W.heap.size W w') := fun W h => keptOf_rd n C l cc ld W h (by omega) (by omega) q1 hq1
  have CK2 : Hid (∀ W, RdI W D r lp → Calls Tryd.prog 30 #[.int .i64 (m : Int), .slice D r cd] W fun e w' => ∃ A3 c3, e = .returned (.slice A3 q2 c3) ∧ RdI w' A3 q2 (kepL lp m) ∧ Below W.heap.size W w') := fun W h => keptOf_rd m D r cd lp W h (by omega) (by omega) q2 hq2
  have HM1 : Hid (∀ x ∈ kepL ld n, 0 ≤ x ∧ x < n) := fun x hx => by have := (kepL_mem ld n x).1 hx; omega
  have HM2 : Hid (∀ x ∈ kepL lp m, 0 ≤ x ∧ x < m) := fun x hx => by have := (kepL_mem lp m x).1 hx; omega
  have HF2 : Hid (firstE [rowsE ds (-32767) 32767 (kepL ld n), rowsE ps 0 65536 (kepL lp m)] = grpE n m ds ps ld lp) := (if_pos hE).symm
  obtain ⟨W5, hW5⟩ : ∃ W, w4.alloc (.cells #[.int .i64 (whenE ((m : Int) == 0) 10), .int .i64 (whenE (decide ((4 : Int) < (m : Int))) 8), .int .i64 (lostE n (-1) ld), .int .i64 (lostE m (-1) lp)] 27) = W := ⟨_, rfl⟩
  rw [hW5] at BA
  have HW5 := Lib.hid hW5
  clear hE hW5 hq1 hq2 hHeld
  go_upto_region 4 with fail
  rw [show w4.alloc (.cells #[.int .i64 (whenE ((m : Int) == 0) 10), .int .i64 (whenE (decide ((4 : Int) < (m : Int))) 8), .int .i64 (lostE n (-1) ld), .int .i64 (lostE m (-1) lp)] 27) = W5 from HW5.out]
  clear HW5 B4 B3
  have B5 : Hid (Below w1.heap.size w1 W5.drew) := BA.out.drew
  refine wp_region_held_drew (S := (fun w' : World => w'.cell? ⟨w.heap.size, 0, none⟩ = some (.slice A n ca) ∧ w'.cell? ⟨w.heap.size, 1, none⟩ = some (.slice B m cb) ∧ w'.cell? ⟨w.heap.size, 2, none⟩ = some (.slice C l cc) ∧ w'.cell? ⟨w.heap.size, 3, none⟩ = some (.slice D r cd))) (by kernel_rfl) (KEEP.out _ B5.out) ?_
  intro hHeld
  refine wpAnyH_take (i := 0) (v := ?_) rfl (by kernel_rfl) (by kernel_rfl) (by kernel_rfl) (fun _ _ _ h => h) (Or.inl ⟨by rfl, ?_⟩) (by assumption) ?_
  rotate_left
  · intro w hSw; (try dsimp only at hSw); go_simp; (try (with_reducible rfl))
  try simp only [List.getElem_toArray, List.getElem_cons_succ, List.getElem_cons_zero, Act.put, List.setIfInBounds_toArray, List.set_cons_zero, List.set_cons_succ]
  refine wpAnyH_take (i := 1) (v := ?_) rfl (by kernel_rfl) (by kernel_rfl) (by kernel_rfl) (fun _ _ _ h => h) (Or.inl ⟨by rfl, ?_⟩) (by assumption) ?_
  rotate_left
  · intro w hSw; (try dsimp only at hSw); go_simp; (try (with_reducible rfl))
  try simp only [List.getElem_toArray, List.getElem_cons_succ, List.getElem_cons_zero, Act.put, List.setIfInBounds_toArray, List.set_cons_zero, List.set_cons_succ]
  refine wpAnyH_take (i := 2) (v := ?_) rfl (by kernel_rfl) (by kernel_rfl) (by kernel_rfl) (fun _ _ _ h => h) (Or.inl ⟨by rfl, ?_⟩) (by assumption) ?_
  rotate_left
  · intro w hSw; (try dsimp only at hSw); go_simp; (try (with_reducible rfl))
  try simp only [List.getElem_toArray, List.getElem_cons_succ, List.getElem_cons_zero, Act.put, List.setIfInBounds_toArray, List.set_cons_zero, List.set_cons_succ]
  refine wpAnyH_take (i := 3) (v := ?_) rfl (by kernel_rfl) (by kernel_rfl) (by kernel_rfl) (fun _ _ _ h => h) (Or.inl ⟨by rfl, ?_⟩) (by assumption) ?_
  rotate_left
  · intro w hSw; (try dsimp only at hSw); go_simp; (try (with_reducible rfl))
  try simp only [List.getElem_toArray, List.getElem_cons_succ, List.getElem_cons_zero, Act.put, List.setIfInBounds_toArray, List.set_cons_zero, List.set_cons_succ]
  refine wpAnyH_take (i := 4) (v := ?_) rfl (by kernel_rfl) (by kernel_rfl) (by kernel_rfl) (fun _ _ _ h => h) (Or.inl ⟨by rfl, ?_⟩) (by assumption) ?_
  rotate_left
  · intro w hSw; (try dsimp only at hSw); go_simp; (try (with_reducible rfl))
  try simp only [List.getElem_toArray, List.getElem_cons_succ, List.getElem_cons_zero, Act.put, List.setIfInBounds_toArray, List.set_cons_zero, List.set_cons_succ]
  refine wpAnyH_take (i := 6) (v := ?_) rfl (by kernel_rfl) (by kernel_rfl) (by kernel_rfl) (fun _ _ _ h => h) (Or.inl ⟨by rfl, ?_⟩) (by assumption) ?_
  rotate_left
  · intro w hSw; (try dsimp only at hSw); go_simp; (try (with_reducible rfl))
  try simp only [List.getElem_toArray, List.getElem_cons_succ, List.getElem_cons_zero, Act.put, List.setIfInBounds_toArray, List.set_cons_zero, List.set_cons_succ]
  refine wpAnyH_take (i := 8) (v := ?_) rfl (by kernel_rfl) (by kernel_rfl) (by kernel_rfl) (fun _ _ _ h => h) (Or.inl ⟨by rfl, ?_⟩) (by assumption) ?_
  rotate_left
  · intro w hSw; (try dsimp only at hSw); go_simp; (try (with_reducible rfl))
  try simp only [List.getElem_toArray, List.getElem_cons_succ, List.getElem_cons_zero, Act.put, List.setIfInBounds_toArray, List.set_cons_zero, List.set_cons_succ]
  refine wpAnyH_take (i := 9) (v := ?_) rfl (by kernel_rfl) (by kernel_rfl) (by kernel_rfl) (fun _ _ _ h => h) (Or.inl ⟨by rfl, ?_⟩) (by assumption) ?_
  rotate_left
  · intro w hSw; (try dsimp only at hSw); go_simp; (try (with_reducible rfl))
  try simp only [List.getElem_toArray, List.getElem_cons_succ, List.getElem_cons_zero, Act.put, List.setIfInBounds_toArray, List.set_cons_zero, List.set_cons_succ]
  refine wpAnyH_take (i := 10) (v := ?_) rfl (by kernel_rfl) (by kernel_rfl) (by kernel_rfl) (fun _ _ _ h => h) (Or.inl ⟨by rfl, ?_⟩) (by assumption) ?_
  rotate_left
  · intro w hSw; (try dsimp only at hSw); go_simp; (try (with_reducible rfl))
  try simp only [List.getElem_toArray, List.getElem_cons_succ, List.getElem_cons_zero, Act.put, List.setIfInBounds_toArray, List.set_cons_zero, List.set_cons_succ]
  refine wpAnyH_take (i := 11) (v := ?_) rfl (by kernel_rfl) (by kernel_rfl) (by kernel_rfl) (fun _ _ _ h => h) (Or.inl ⟨by rfl, ?_⟩) (by assumption) ?_
  rotate_left
  · intro w hSw; (try dsimp only at hSw); go_simp; (try (with_reducible rfl))
  try simp only [List.getElem_toArray, List.getElem_cons_succ, List.getElem_cons_zero, Act.put, List.setIfInBounds_toArray, List.set_cons_zero, List.set_cons_succ]
  refine wpAnyH_take (i := 12) (v := ?_) rfl (by kernel_rfl) (by kernel_rfl) (by kernel_rfl) (fun _ _ _ h => h) (Or.inl ⟨by rfl, ?_⟩) (by assumption) ?_
  rotate_left
  · intro w hSw; (try dsimp only at hSw); go_simp; (try (with_reducible rfl))
  try simp only [List.getElem_toArray, List.getElem_cons_succ, List.getElem_cons_zero, Act.put, List.setIfInBounds_toArray, List.set_cons_zero, List.set_cons_succ]
  refine wpAnyH_take (i := 14) (v := ?_) rfl (by kernel_rfl) (by kernel_rfl) (by kernel_rfl) (fun _ _ _ h => h) (Or.inl ⟨by rfl, ?_⟩) (by assumption) ?_
  rotate_left
  · intro w hSw; (try dsimp only at hSw); go_simp; (try (with_reducible rfl))
  try simp only [List.getElem_toArray, List.getElem_cons_succ, List.getElem_cons_zero, Act.put, List.setIfInBounds_toArray, List.set_cons_zero, List.set_cons_succ]
  refine wpAnyH_ready (rs := [5]) (by kernel_rfl) (by simp) ?_
  refine AllReadyH.cons rfl (fun K hK => ?_) AllReadyH.nil
  go_simp
  go_at_call 30
  refine (CK1.out _ (RC.out _ B5.out)).mono ?_
  rintro e w6 ⟨A6, c6, rfl, hr6, hb⟩
  have B6 : Hid (Below w1.heap.size w1 w6) := B5.out.trans (hb.mono B5.out.size)
  have R6 := Lib.hid hr6
  clear hb hr6
  go_wp2_with fail
  refine hK.out _ _ (KEEP.out _ B6.out) (fun hHeld => ?_)
  clear hK K
  try simp only [List.getElem_toArray, List.getElem_cons_succ, List.getElem_cons_zero, Act.put, List.setIfInBounds_toArray, List.set_cons_zero, List.set_cons_succ]
  refine wpAnyH_ready (rs := [7]) (by kernel_rfl) (by simp) ?_
  refine AllReadyH.cons rfl (fun K hK => ?_) AllReadyH.nil
  go_simp
  go_at_call 38
  refine (checkKept1 A6 q1 c6 (kepL ld n) w.heap.size A n ca ds w6 R6.out (by omega) (KEEP.out _ B6.out).1 (RA.out _ B6.out) HM1.out).mono ?_
  rintro e w7 ⟨rfl, hb⟩
  have B7 : Hid (Below w1.heap.size w1 w7) := B6.out.trans (hb.mono B6.out.size)
  clear hb
  go_wp2_with fail
  refine hK.out _ _ (KEEP.out _ B7.out) (fun hHeld => ?_)
  clear hK K
  try simp only [List.getElem_toArray, List.getElem_cons_succ, List.getElem_cons_zero, Act.put, List.setIfInBounds_toArray, List.set_cons_zero, List.set_cons_succ]
  refine wpAnyH_ready (rs := [13]) (by kernel_rfl) (by simp) ?_
  refine AllReadyH.cons rfl (fun K hK => ?_) AllReadyH.nil
  go_simp
  go_at_call 30
  refine (CK2.out _ (RD.out _ B7.out)).mono ?_
  rintro e w8 ⟨A8, c8, rfl, hr8, hb⟩
  have B8 : Hid (Below w1.heap.size w1 w8) := B7.out.trans (hb.mono B7.out.size)
  have R8 := Lib.hid hr8
  clear hb hr8
  go_wp2_with fail
  refine hK.out _ _ (KEEP.out _ B8.out) (fun hHeld => ?_)
  clear hK K
  try simp only [List.getElem_toArray, List.getElem_cons_succ, List.getElem_cons_zero, Act.put, List.setIfInBounds_toArray, List.set_cons_zero, List.set_cons_succ]
  refine wpAnyH_ready (rs := [15]) (by kernel_rfl) (by simp) ?_
  refine AllReadyH.cons rfl (fun K hK => ?_) AllReadyH.nil
  go_simp
  go_at_call 38
  refine (checkKept2 A8 q2 c8 (kepL lp m) w.heap.size B m cb ps w8 R8.out (by omega) (KEEP.out _ B8.out).2.1 (RB.out _ B8.out) HM2.out).mono ?_
  rintro e w9 ⟨rfl, hb⟩
  have B9 : Hid (Below w1.heap.size w1 w9) := B8.out.trans (hb.mono B8.out.size)
  clear hb
  go_wp2_with fail
  refine hK.out _ _ (KEEP.out _ B9.out) (fun hHeld => ?_)
  clear hK K
  try simp only [List.getElem_toArray, List.getElem_cons_succ, List.getElem_cons_zero, Act.put, List.setIfInBounds_toArray, List.set_cons_zero, List.set_cons_succ]
  refine wpAnyH_ready (rs := [16]) (by kernel_rfl) (by simp) ?_
  refine AllReadyH.cons rfl (fun K hK => ?_) AllReadyH.nil
  go_simp
  refine hK.out _ _ (KEEP.out _ (B9.out.alloc B9.out.size _)) (fun hHeld => ?_)
  clear hK K
  try simp only [List.getElem_toArray, List.getElem_cons_succ, List.getElem_cons_zero, Act.put, List.setIfInBounds_toArray, List.set_cons_zero, List.set_cons_succ]
  refine wpAnyH_ready (rs := [17]) (by kernel_rfl) (by simp) ?_
  refine AllReadyH.cons rfl (fun K hK => ?_) AllReadyH.nil
  go_simp
  go_at_call 24
  refine (first2 _ _ _).mono ?_
  rw [HF2.out]
  rintro e w' ⟨rfl, rfl⟩
  go_wp2_with fail
  refine hK.out _ _ (KEEP.out _ (B9.out.alloc B9.out.size _)) (fun hHeld => ?_)
  clear hK K
  try simp only [List.getElem_toArray, List.getElem_cons_succ, List.getElem_cons_zero, Act.put, List.setIfInBounds_toArray, List.set_cons_zero, List.set_cons_succ]
  refine wpAnyH_take (i := 18) (v := ?_) rfl (by kernel_rfl) (by kernel_rfl) (by kernel_rfl) (fun _ _ _ h => h) (Or.inl ⟨by rfl, ?_⟩) (by assumption) ?_
  rotate_left
  · intro w hSw; (try dsimp only at hSw); go_simp; (try (with_reducible rfl))
  try simp only [List.getElem_toArray, List.getElem_cons_succ, List.getElem_cons_zero, Act.put, List.setIfInBounds_toArray, List.set_cons_zero, List.set_cons_succ]
  refine wpAnyH_done (by kernel_rfl) ?_ _
  have BF := Lib.hid (HB1.out.trans ((B9.out.alloc B9.out.size (.cells #[.int .i64 (rowsE ds (-32767) 32767 (kepL ld n)), .int .i64 (rowsE ps 0 65536 (kepL lp m))] 27)).mono HB1.out.size))
  go_wp2
  go_ret
  exact ⟨rfl, BF.out⟩
theorem checkGroup_any (A B C D : Option Addr) (n m l r ca cb cc cd : Nat) (ds ps : List (List Int)) (ld lp : List Int) (w : World) (hA : RdD w A n ds) (hB : RdD w B m ps) (hC : RdI w C l ld) (hD : RdI w D r lp) (hn : n ≤ 1000) (hm : m ≤ 1000) (hl : l ≤ 1000) (hr : r ≤ 1000) :
    Calls Tryd.prog 15 #[.agg #[.slice A n ca, .slice B m cb, .slice C l cc, .slice D r cd]] w fun e w' => e = .returned (.int .i64 (grpE n m ds ps ld lp)) ∧ Below w.heap.size w w' := by
  by_cases h0 : n = 0
  · exact cgr_zero A B C D n m l r ca cb cc cd ds ps ld lp w hA hB hC hD hn hm hl hr h0
  · by_cases h1 : 12 < n
    · exact cgr_many A B C D n m l r ca cb cc cd ds ps ld lp w hA hB hC hD hn hm hl hr h1
    · by_cases hE : grp1E n m ld lp = 0
      · exact cgr_ok A B C D n m l r ca cb cc cd ds ps ld lp w hA hB hC hD hn hm hl hr (by omega) (by omega) hE
      · exact cgr_err A B C D n m l r ca cb cc cd ds ps ld lp w hA hB hC hD hn hm hl hr (by omega) (by omega) hE
end Go.Proofs.YtjjflbnopphciabDoor

namespace Go.Proofs.YtjjflbnopphciabDoor
open Go.RowKit
open Go.Shelf
attribute [local go_sem] Oper.semAt_some

/-- A block whose first m samples are numbers already. -/
def numTo (r : List Int) (m : Nat) : List Int := (List.range 8).map fun k => r.getD k 0 + if k < m then 32768 else 0
theorem numTo_length (r : List Int) (m : Nat) : (numTo r m).length = 8 := by simp [numTo]
theorem numTo_zero (r : List Int) (h : r.length = 8) : numTo r 0 = r := by
  match r, h with
  | [_, _, _, _, _, _, _, _], _ => simp [numTo, List.range, List.range.loop]
theorem numTo_at (r : List Int) (m k : Nat) (hk : k < 8) : (numTo r m).getD k 0 = r.getD k 0 + if k < m then 32768 else 0 := by
  simp [numTo, List.getD_eq_getElem?_getD, hk]
theorem numTo_step (r : List Int) (m : Nat) (hm : m < 8) : (numTo r m).set m (r.getD m 0 + 32768) = numTo r (m + 1) := by
  apply List.ext_getElem (by simp [numTo])
  intro i h1 h2
  have hi : i < 8 := by simpa [numTo] using h2
  rw [List.getElem_set]
  by_cases e : m = i
  · subst e; simp [numTo]
  · rw [if_neg e]
    simp only [numTo, List.getElem_map, List.getElem_range]
    by_cases h : i < m
    · rw [if_pos h, if_pos (by omega)]
    · rw [if_neg h, if_neg (by omega)]
/-- The numbers of block x. -/
def numL (ds : List (List Int)) (x : Nat) : List Int := numTo (ds.getD x []) 8
theorem grown_of_below {W W' : World} (h : Below W.heap.size W W') : W.grownBy W' none := ⟨h.os, h.tape, h.output, h.size, fun k hk _ => h.block k hk⟩
theorem iArr8 (l : List Int) (h : l.length = 8) : iArr l = #[.int .i64 (l.getD 0 0), .int .i64 (l.getD 1 0), .int .i64 (l.getD 2 0), .int .i64 (l.getD 3 0), .int .i64 (l.getD 4 0), .int .i64 (l.getD 5 0), .int .i64 (l.getD 6 0), .int .i64 (l.getD 7 0)] := by
  match l, h with
  | [_, _, _, _, _, _, _, _], _ => rfl
/-- All numbers of all blocks are samples. -/
def BndD (ds : List (List Int)) : Prop := ∀ i k, -32768 ≤ dc ds i k ∧ dc ds i k ≤ 32767

/-- Of what lay below B all but block X is as it was. -/
structure KX (X B : Nat) (W W' : World) : Prop where
  size : W.heap.size ≤ W'.heap.size
  block : ∀ k, k < B → k ≠ X → W'.heap[k]? = W.heap[k]?
theorem KX.trans {X B : Nat} {U V W : World} (h : KX X B U V) (k : KX X B V W) : KX X B U W := ⟨Nat.le_trans h.size k.size, fun i h1 h2 => (k.block i h1 h2).trans (h.block i h1 h2)⟩
theorem KX.of_below {X B B' : Nat} {W W' : World} (h : Below B' W W') (hb : B ≤ B') : KX X B W W' := ⟨h.size, fun k h1 _ => h.block k (by omega)⟩
theorem KX.cell {X B : Nat} {W W' : World} (h : KX X B W W') {p : Addr} (h1 : p.block < B) (h2 : p.block ≠ X) : W'.cell? p = W.cell? p := World.cell?_of_block (w := W) (h.block p.block h1 h2)
theorem RdD.kx {w w' : World} {A : Option Addr} {n X : Nat} {ds : List (List Int)} (h : RdD w A n ds) (hk : KX X w.heap.size w w') (hX : 0 < n → ∀ ad, A = some ad → ad.block ≠ X) : RdD w' A n ds := by
  refine ⟨h.1, h.2.1, fun h0 => ?_⟩
  obtain ⟨ad, hA, hg, hc⟩ := h.2.2 h0
  have hne := hX h0 ad hA
  exact ⟨ad, hA, Nat.lt_of_lt_of_le hg hk.size, fun i k hi hk' => (hk.cell (by rw [addBlock, addBlock]; exact hg) (by rw [addBlock, addBlock]; exact hne)).trans (hc i k hi hk')⟩

set_option maxRecDepth 100000 in
set_option maxHeartbeats 4000000 in
theorem weighted1_in (nf : Nat) (hn : 1 ≤ nf) (l Bd Bj X : Nat) (A : Option Addr) (n cp : Nat) (ds : List (List Int)) (j : Int) (hj : 0 ≤ j ∧ j ≤ 3) (hn2 : n ≤ 1000) (w0 : World) (hbd : Bd < w0.heap.size) (hbj : Bj < w0.heap.size) (hxd : Bd ≠ X) (hxj : Bj ≠ X) (hxa : 0 < n → ∀ ad, A = some ad → ad.block ≠ X)
    (hRd : RdD w0 A n ds) (hBd : w0.cell? ⟨Bd, 0, none⟩ = some (.slice A n cp)) (hBj : w0.cell? ⟨Bj, 0, none⟩ = some (.int .i64 j)) (hX : BndD ds) (J Jx : List Nat → World → Prop)
    (hY : ∀ pre (x : Nat) W, J pre W → pre ++ [x] <+: List.range n → YieldAt Fence.wide (nf - 1) Tryd.prog l #[.int .i64 (invT (4 + (x : Int) - j)), .agg (iArr (numL ds x))] W fun e W' =>
      (e = .returned (.bool true) ∧ J (pre ++ [x]) W' ∧ KX X w0.heap.size W W') ∨ (e = .returned (.bool false) ∧ Jx (pre ++ [x]) W'))
    (hd : ∀ pre W W', J pre W → Below W.heap.size W W' → J pre W')
    (W : World) (hW : KX X w0.heap.size w0 W) (h0 : J [] W) :
    CallsIn Fence.wide nf Tryd.prog 76 #[.func (.yield l) #[] #[], .pointer (some ⟨Bd, 0, none⟩), .pointer (some ⟨Bj, 0, none⟩)] W fun e W' => (∃ v, e = .returned v) ∧
      ((∃ ys, ys = List.range n ∧ J ys W') ∨ (∃ pre, pre <+: List.range n ∧ Jx pre W')) := by
  have HY := Lib.hid hY
  have H0 := Lib.hid h0
  have HD := Lib.hid hd
  have HR := Lib.hid hRd
  have HBD := Lib.hid hBd
  have HBJ := Lib.hid hBj
  have HW := Lib.hid hW
  have HX := Lib.hid hX
  clear hY h0 hRd hBd hBj hW hd hX
  refine callsIn_of_wp Tryd.func76 rfl trivial ?_ rfl
  simp only [Tryd.ntmps76, List.size_toArray, List.length_cons, List.length_nil, Nat.reduceAdd, Nat.reduceSub, Array.replicate_succ, Array.replicate_zero, List.push_toArray, List.append_toArray, List.nil_append, List.cons_append]
  have hBd0 : W.cell? ⟨Bd, 0, none⟩ = some (.slice A n cp) := (HW.out.cell (p := ⟨Bd, 0, none⟩) hbd hxd).trans HBD.out
  gi_wp2
  clear hBd0
  gi_loopw [9] (fun i wr => ∃ k : Nat, k ≤ n ∧ i = .int .i64 (k : Int) ∧ J ((List.range n).take k) wr ∧ Hid (KX X w0.heap.size w0 wr)) (fun i _ => (n - (intOf i).toNat))
  case atStart =>
    exact ⟨0, Nat.zero_le _, rfl, by simpa using H0.out, HW⟩
  case round =>
    obtain ⟨k, hk, rfl, hJ, HB⟩ := hrel
    by_cases hlt : k < n
    · obtain ⟨wA, hwA⟩ : ∃ X, X = wr := ⟨_, rfl⟩
      subst hwA
      have hR2 := HR.out.kx HB.out hxa
      have hdc : ∀ m, (ds.getD k []).getD m 0 = dc ds k m := fun m => rfl
      have hl8 : (ds.getD k []).length = 8 := HR.out.2.1 k (by rw [HR.out.1]; exact hlt)
      obtain ⟨ad, x0, x1, x2, x3, x4, x5, x6, x7, hAe, hbl, hrow, p0, p1, p2, p3, p4, p5, p6, p7⟩ := hR2.row hlt
      subst hAe
      have HJ := Lib.hid hJ
      have hjW : Hid (Bj < wA.heap.size) := Nat.lt_of_lt_of_le hbj HB.out.size
      have hkI : (k : Int) < (n : Int) := by omega
      have HNL : Hid (numL ds k = numTo (ds.getD k []) 8) := rfl
      have hxb : ∀ m, -32768 ≤ (ds.getD k []).getD m 0 ∧ (ds.getD k []).getD m 0 ≤ 32767 := fun m => HX.out k m
      have HXB := Lib.hid hxb
      obtain ⟨r, hr⟩ : ∃ r, ds.getD k [] = r := ⟨_, rfl⟩
      rw [hr] at hl8 hrow HNL HXB
      obtain ⟨w2, hw2⟩ : ∃ X, wA.alloc (.cells #[.int .i64 x0, .int .i64 x1, .int .i64 x2, .int .i64 x3, .int .i64 x4, .int .i64 x5, .int .i64 x6, .int .i64 x7] 34) = X := ⟨_, rfl⟩
      have hbk2 : Hid (Bk w2 wA.heap.size 34 (iArr (numTo r 0))) := by
        show Bk _ _ _ _
        rw [numTo_zero r hl8, hrow, ← hw2]
        exact Bk.new _ _ _
      have hbe2 : Hid (Below wA.heap.size wA w2) := by show Below _ _ _; rw [← hw2]; exact (Below.refl _ _).alloc (Nat.le_refl _) _
      have HW2 := Lib.hid hw2
      clear hw2 hJ hR2 hdc hr hrow hxb
      gi_wp2_with fail
      rw [HW2.out]
      clear HW2 p0 p1 p2 p3 p4 p5 p6 p7
      obtain ⟨g, hg⟩ : ∃ g, wA.heap.size = g := ⟨_, rfl⟩
      rw [hg] at hbk2 hjW ⊢
      have HG := Lib.hid hg
      clear hg
      gi_loopw [14] (fun i W => ∃ m : Nat, m ≤ 8 ∧ i = .int .i64 m ∧ Hid (Bk W g 34 (iArr (numTo r m))) ∧ Hid (Below wA.heap.size wA W)) (fun i _ => 8 - (intOf i).toNat)
      case atStart => exact ⟨0, Nat.zero_le _, rfl, hbk2, hbe2⟩
      case round =>
        obtain ⟨m, hm8, rfl, hbk, hbe⟩ := hrel
        clear hbk2 hbe2
        by_cases hm : m < 8
        · have hold : wr.cell? ⟨g, m, none⟩ = some (.int .i64 (r.getD m 0)) := by
            rw [hbk.out.cell, iArr_at _ _ (by rw [numTo_length]; exact hm), numTo_at r m m hm, if_neg (by omega), Int.add_zero]
          have hfr : wr.frozen? ⟨g, m, none⟩ = false := hbk.out.frozen _
          have hst := numTo_step r m hm
          have hxm := HXB.out m
          obtain ⟨o, ho⟩ : ∃ o, r.getD m 0 = o := ⟨_, rfl⟩
          rw [ho] at hold hst hxm
          have FIN : Hid (Bk (wr.setCell ⟨g, m, none⟩ (.int .i64 (o + 32768))) g 34 (iArr (numTo r (m + 1))) ∧ Below wA.heap.size wA (wr.setCell ⟨g, m, none⟩ (.int .i64 (o + 32768)))) := by
            refine ⟨?_, hbe.out.setCell (by rw [HG.out]; exact Nat.le_refl _) _⟩
            rw [← hst, ← iArr_set]
            exact hbk.out.set_ _ _
          have hmI : (m : Int) < 8 := by omega
          clear ho hst hbk hbe
          gi_wp2
          go_roundw
          case rel => exact ⟨m + 1, by omega, by go_num, FIN.out.1, FIN.out.2⟩
          case measure => simp [intOf]; omega
        · obtain rfl : m = 8 := by omega
          have HB8 : Hid (Bk wr g 34 (iArr (numL ds k))) := by show Bk _ _ _ _; rw [HNL.out]; exact hbk.out
          have hn8 : (numL ds k).length = 8 := by rw [HNL.out]; exact numTo_length _ _
          have hBW : KX X w0.heap.size w0 wr := HB.out.trans (KX.of_below hbe.out HB.out.size)
          have hbj2 : wr.cell? ⟨Bj, 0, none⟩ = some (.int .i64 j) := (hBW.cell (p := ⟨Bj, 0, none⟩) hbj hxj).trans HBJ.out
          have hltb : Bj < wr.heap.size := Nat.lt_of_lt_of_le hbj hBW.size
          have hgl : g < wr.heap.size := HB8.out.lt
          obtain ⟨fn, tmps, assign, body, hy, hR⟩ := HY.out _ k wr.drew (HD.out _ _ _ HJ.out (hbe.out.drew)) ⟨(List.range n).drop (k + 1), by rw [← range_takeT hlt, List.take_append_drop]⟩
          have CW : Hid (∀ W, Calls Tryd.prog 61 #[.int .i64 k, .int .i64 j] W fun e w' => e = .returned (.int .i64 (invT (4 + (k : Int) - j))) ∧ W = w') := fun W => weightOf_any k j (by omega) hj W
          obtain ⟨wt, hwt⟩ : ∃ wt, invT (4 + (k : Int) - j) = wt := ⟨_, rfl⟩
          rw [hwt] at hy CW
          obtain ⟨nl, hnl⟩ : ∃ nl, numL ds k = nl := ⟨_, rfl⟩
          rw [hnl] at hn8 HB8 hy
          rw [iArr8 nl hn8] at hy HB8
          have HW5 : Hid (KX X w0.heap.size w0 wr.drew) := ⟨hBW.size, hBW.block⟩
          have HRB := Lib.hid (hR.mono (R' := fun e W' => ∃ b : Bool, e = .returned (.bool b) ∧ ((b = true ∧ J ((List.range n).take k ++ [k]) W' ∧ KX X w0.heap.size wr.drew W') ∨ (b = false ∧ Jx ((List.range n).take k ++ [k]) W'))) (by
            rintro e W' (⟨rfl, h1, h2⟩ | ⟨rfl, h1⟩)
            · exact ⟨true, rfl, .inl ⟨rfl, h1, h2⟩⟩
            · exact ⟨false, rfl, .inr ⟨rfl, h1⟩⟩))
          clear hR
          clear hwt hnl hn8 hbk hbe hBW HNL
          generalize nl.getD 0 0 = y0 at *
          generalize nl.getD 1 0 = y1 at *
          generalize nl.getD 2 0 = y2 at *
          generalize nl.getD 3 0 = y3 at *
          generalize nl.getD 4 0 = y4 at *
          generalize nl.getD 5 0 = y5 at *
          generalize nl.getD 6 0 = y6 at *
          generalize nl.getD 7 0 = y7 at *
          have e0 : wr.cell? ⟨g, 0, none⟩ = some (.int .i64 y0) := by rw [HB8.out.cell]; rfl
          have e1 : wr.cell? ⟨g, 1, none⟩ = some (.int .i64 y1) := by rw [HB8.out.cell]; rfl
          have e2 : wr.cell? ⟨g, 2, none⟩ = some (.int .i64 y2) := by rw [HB8.out.cell]; rfl
          have e3 : wr.cell? ⟨g, 3, none⟩ = some (.int .i64 y3) := by rw [HB8.out.cell]; rfl
          have e4 : wr.cell? ⟨g, 4, none⟩ = some (.int .i64 y4) := by rw [HB8.out.cell]; rfl
          have e5 : wr.cell? ⟨g, 5, none⟩ = some (.int .i64 y5) := by rw [HB8.out.cell]; rfl
          have e6 : wr.cell? ⟨g, 6, none⟩ = some (.int .i64 y6) := by rw [HB8.out.cell]; rfl
          have e7 : wr.cell? ⟨g, 7, none⟩ = some (.int .i64 y7) := by rw [HB8.out.cell]; rfl
          gi_wp2
          gi_region_with (first
            | (refine ⟨trivial, ?_⟩; gi_at_call 61; refine (callsIn_wide.2 (CW.out _)).mono ?_; rintro e w' ⟨rfl, rfl⟩)
            | (refine HRB.out.mono ?_; rintro e W3 ⟨bb, rfl, hbb⟩))
          all_goals
            rcases hbb with ⟨rfl, hJ3, hk3⟩ | ⟨rfl, hJx3⟩
            · gi_wp2
              go_roundw
              case rel => exact ⟨k + 1, by omega, by go_num, by rw [range_takeT hlt]; exact hJ3, HW5.out.trans hk3⟩
              case measure => simp [intOf]; omega
            · gi_wp2
              refine bodyPost_ret (results_none rfl _ _ _) rfl ?_
              exact ⟨⟨_, rfl⟩, .inr ⟨_, ⟨(List.range n).drop (k + 1), by rw [← range_takeT hlt, List.take_append_drop]⟩, hJx3⟩⟩
    · obtain rfl : n = k := by omega
      gi_wp2
      go_end0
      exact ⟨⟨_, rfl⟩, .inl (by rw [List.take_of_length_le (by simp)] at hJ; first | exact hJ | exact ⟨_, rfl, hJ⟩)⟩

end Go.Proofs.YtjjflbnopphciabDoor

