import Derived.Test.YtjjflbnopphciaaGreatDoorA0
namespace Go.Proofs.YtjjflbnopphciaaGreatDoor
open Go.RowKit

def imgRows : List (List Int) := [[1, 2, 3], [4, 5, 6], [7, 8, 9]]
def tskRows : List (List Int) := [[5, 1, 9], [4, 4, 0], [7, 2, 3]]

theorem rd_three {W : World} {b x0 x1 x2 : Nat} {r0 r1 r2 : List Int} (h : W.cell? ⟨b, 0, none⟩ = some (.slice (some ⟨x0, 0, none⟩) 3 3)) (h1 : W.cell? ⟨b, 1, none⟩ = some (.slice (some ⟨x1, 0, none⟩) 3 3)) (h2 : W.cell? ⟨b, 2, none⟩ = some (.slice (some ⟨x2, 0, none⟩) 3 3))
    (g0 : RdI W (some ⟨x0, 0, none⟩) 3 r0) (g1 : RdI W (some ⟨x1, 0, none⟩) 3 r1) (g2 : RdI W (some ⟨x2, 0, none⟩) 3 r2) : RdG W (some ⟨b, 0, none⟩) 3 [r0, r1, r2] :=
  ⟨rfl, fun _ => ⟨_, rfl, World.block_lt_of_cell? _ _ h, fun j hj => by
    rcases (by omega : j = 0 ∨ j = 1 ∨ j = 2) with rfl | rfl | rfl
    · exact ⟨_, _, _, by rw [addOff]; exact h, g0, by omega⟩
    · exact ⟨_, _, _, by rw [addOff]; exact h1, g1, by omega⟩
    · exact ⟨_, _, _, by rw [addOff]; exact h2, g2, by omega⟩⟩⟩
theorem lit3 (W : World) (b : Nat) (x y z : Int) (h : W.cell? ⟨b, 0, none⟩ = some (.int .i64 x)) (h' : W.cell? ⟨b, 1, none⟩ = some (.int .i64 y)) (h'' : W.cell? ⟨b, 2, none⟩ = some (.int .i64 z)) : RdI W (some ⟨b, 0, none⟩) 3 [x, y, z] :=
  ⟨rfl, fun _ => ⟨_, rfl, World.block_lt_of_cell? _ _ h, fun j hj => by
    rcases (by omega : j = 0 ∨ j = 1 ∨ j = 2) with rfl | rfl | rfl
    · rw [addOff]; exact h
    · rw [addOff]; exact h'
    · rw [addOff]; exact h''⟩⟩

theorem Image_any (w : World) : Calls Tryz.prog 32 #[] w fun e w' => (∃ B, e = .returned (.agg #[.slice (some ⟨B, 0, none⟩) 3 3]) ∧ RdG w' (some ⟨B, 0, none⟩) 3 imgRows) ∧ Below w.heap.size w w' := by
  go_enter Tryz.func32, Tryz.ntmps32
  go_wp2
  refine bodyPost_ret (v := .agg #[.slice (some ⟨w.heap.size + 1 + 1 + 1 + 1, 0, none⟩) 3 3]) (by simp [results, Tryz.results32, go_sem]) rfl ⟨⟨_, rfl, rd_three (x0 := w.heap.size + 1) (x1 := w.heap.size + 1 + 1) (x2 := w.heap.size + 1 + 1 + 1) (by simp [go_sem]) (by simp [go_sem]) (by simp [go_sem]) (lit3 _ _ _ _ _ (by simp [go_sem]) (by simp [go_sem]) (by simp [go_sem])) (lit3 _ _ _ _ _ (by simp [go_sem]) (by simp [go_sem]) (by simp [go_sem])) (lit3 _ _ _ _ _ (by simp [go_sem]) (by simp [go_sem]) (by simp [go_sem]))⟩, ?_⟩
  exact (((((Below.refl _ w).alloc (Nat.le_refl _) _).alloc (by simp) _).alloc (by simp; omega) _).alloc (by simp; omega) _).alloc (by simp; omega) _
theorem Task_any (w : World) : Calls Tryz.prog 33 #[] w fun e w' => (∃ B, e = .returned (.agg #[.slice (some ⟨B, 0, none⟩) 3 3, .int .i64 1]) ∧ RdG w' (some ⟨B, 0, none⟩) 3 tskRows) ∧ Below w.heap.size w w' := by
  go_enter Tryz.func33, Tryz.ntmps33
  go_wp2
  refine bodyPost_ret (v := .agg #[.slice (some ⟨w.heap.size + 1 + 1 + 1 + 1, 0, none⟩) 3 3, .int .i64 1]) (by simp [results, Tryz.results33, go_sem]) rfl ⟨⟨_, rfl, rd_three (x0 := w.heap.size + 1) (x1 := w.heap.size + 1 + 1) (x2 := w.heap.size + 1 + 1 + 1) (by simp [go_sem]) (by simp [go_sem]) (by simp [go_sem]) (lit3 _ _ _ _ _ (by simp [go_sem]) (by simp [go_sem]) (by simp [go_sem])) (lit3 _ _ _ _ _ (by simp [go_sem]) (by simp [go_sem]) (by simp [go_sem])) (lit3 _ _ _ _ _ (by simp [go_sem]) (by simp [go_sem]) (by simp [go_sem]))⟩, ?_⟩
  exact (((((Below.refl _ w).alloc (Nat.le_refl _) _).alloc (by simp) _).alloc (by simp; omega) _).alloc (by simp; omega) _).alloc (by simp; omega) _

theorem v_ring : ringE imgRows 1 1 1 = 0 ∧ ringX imgRows 1 1 1 = [6, 9, 8, 7, 4, 1, 2, 3] := by decide +kernel
theorem v_best : taskE tskRows 1 = 0 ∧ bestL tskRows 1 = ([1, 2, 1], 5) := by decide +kernel
theorem v_turn : turnE tskRows 1 (-1) = 0 ∧ turnL tskRows 1 (-1) = ([2, 2, 1], 12) := by decide +kernel
theorem v_bridge : brE [0, 9, 9, 9, 8] [(1, 3)] = 0 ∧ brL [0, 9, 9, 9, 8] [(1, 3)] = [0, 2, 4, 6, 8] := by decide +kernel
theorem v_mat : wallsE [(3, 8)] = 0 ∧ matL [(3, 8)] = [(11, 5)] := by decide +kernel

end Go.Proofs.YtjjflbnopphciaaGreatDoor
