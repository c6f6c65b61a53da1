import Derived.Test.YtnmfeonagigkeaaA1
namespace Go.Proofs.Ytnmfeonagigkeaa
open Go.RowKit

theorem ex_best (B : Nat) (w : World) (hg : RdG w (some ⟨B, 0, none⟩) 3 tskRows) :
    Calls Try.prog 13 #[.agg #[.slice (some ⟨B, 0, none⟩) 3 3, .int .i64 1]] w fun e w' => (∃ A c, e = .returned (.tuple #[.slice A 3 c, .int .i64 5, .int .i64 0]) ∧ RdI w' A 3 [1, 2, 1]) ∧ Below w.heap.size w w' := by
  refine (BestPath_any _ 3 3 tskRows 1 w hg (by omega)).mono ?_
  rintro e w' ⟨⟨v, rfl, ho⟩, hb⟩
  rw [v_best.1, v_best.2]
  rw [v_best.2] at ho
  obtain ⟨A, c, rfl, _, hr⟩ := rd_of_own ho
  exact ⟨⟨A, c, rfl, hr⟩, hb⟩
theorem ex_mat (w : World) :
    Calls Try.prog 6 #[.slice (some ⟨w.heap.size, 0, none⟩) 1 1] (w.alloc (.cells #[.int .i64 3, .int .i64 8] 36)) fun e w' => (∃ g c, e = .returned (.tuple #[.slice (some ⟨g, 0, none⟩) 1 c, .int .i64 0]) ∧ w'.cell? ⟨g, 0, none⟩ = some (.int .i64 11) ∧ w'.cell? ⟨g, 1, none⟩ = some (.int .i64 5)) ∧ Below w.heap.size w w' := by
  refine (MatrixOf_any w.heap.size 1 1 [(3, 8)] _ ?_ (by omega)).mono ?_
  · refine ⟨rfl, fun _ => by simp, fun j hj => ?_⟩
    obtain rfl : j = 0 := by omega
    exact ⟨by simp [go_sem], by simp [go_sem]⟩
  rintro e w' ⟨⟨v, rfl, ho⟩, hb⟩
  rw [v_mat.1]
  rw [v_mat.2] at ho
  obtain ⟨g, c, rfl⟩ := ownsRow_succ (k := 0) ho
  refine ⟨⟨g, c, rfl, ?_, ?_⟩, ((Below.refl _ w).alloc (Nat.le_refl _) _).trans (hb.mono (by simp))⟩
  · have := ho.cells (g := g) rfl 0 (.int .i64 11) rfl
    rwa [addOff] at this
  · have := ho.cells (g := g) rfl 1 (.int .i64 5) rfl
    rwa [addOff] at this

end Go.Proofs.Ytnmfeonagigkeaa
