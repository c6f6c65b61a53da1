import Derived.Test.YtjjflbnopphciaaGreatDoorB2
import Derived.Test.YtjjflbnopphciaaGreatDoorB0
namespace Go.Proofs.YtjjflbnopphciaaGreatDoor
open Go.RowKit

set_option maxRecDepth 100000 in
set_option maxHeartbeats 1000000 in
theorem endsOf_any (g n c lo hi : Nat) (xs : List Int) (w : World) (hr : RdI w (some ⟨g, 0, none⟩) n xs) (hn : n ≤ 1000000) (h1 : lo ≤ hi) (h2 : hi < n) (h3 : ¬ (lo = 0 ∧ hi + 1 = n)) :
    Calls Tryz.prog 85 #[.slice (some ⟨g, 0, none⟩) n c, .agg #[.int .i64 lo, .int .i64 hi]] w fun e w' => e = .returned (.tuple #[.int .i64 (endsL xs lo hi).1, .int .i64 (endsL xs lo hi).2]) ∧ ∃ k, w' = (w.alloc (.cells #[.int .i64 lo, .int .i64 hi] 51)).drewN k := by
  have hl := hr.1
  obtain ⟨_, hg, hgl, hc⟩ := hr.2 (by omega)
  cases hg
  dsimp only at hgl
  have hcell : ∀ j, j < n → (w.alloc (.cells #[.int .i64 lo, .int .i64 hi] 51)).cell? ⟨g, j, none⟩ = some (.int .i64 (xs.getD j 0)) := fun j hj => by
    have := cellA (.cells #[.int .i64 (lo : Int), .int .i64 (hi : Int)] 51) (hc j hj)
    rw [addOff] at this; exact this
  have HC := Lib.hid hcell
  clear hcell hc hr
  have hwh : IntKind.i64.wrap ((hi : Int) + 1) = (hi : Int) + 1 := IntWalk.i64_in _ (by omega)
  have hn1 : IntKind.i64.wrap ((n : Int) - 1) = (n : Int) - 1 := IntWalk.i64_in _ (by omega)
  by_cases hlo : lo = 0
  · subst hlo
    have hE : endsL xs 0 hi = (xs.getD (hi + 1) 0, xs.getD (hi + 1) 0) := rfl
    have q2 := HC.out (hi + 1) (by omega)
    obtain ⟨x2, hx2⟩ : ∃ x, xs.getD (hi + 1) 0 = x := ⟨_, rfl⟩
    rw [hx2] at q2 hE
    have HE := Lib.hid hE
    have hzz : (hi : Int) + 1 < (n : Int) := by omega
    simp only [Int.natCast_zero] at q2
    have hz2 : ((hi : Int) + 1).toNat = hi + 1 := by omega
    have hz3 : (0 : Int) ≤ (hi : Int) + 1 := by omega
    clear hx2 hE hl
    go_enter Tryz.func85, Tryz.ntmps85
    go_wp2
    go_ret2
    exact ⟨by rw [HE.out]; rfl, 0, rfl⟩
  · obtain ⟨q, rfl⟩ : ∃ q, lo = q + 1 := ⟨lo - 1, by omega⟩
    have q1 := HC.out q (by omega)
    have hl0 : (((q + 1 : Nat) : Int) == 0) = false := by rw [beq_eq_false_iff_ne]; omega
    have hl0' : ((q : Int) + 1 == 0) = false := by rw [beq_eq_false_iff_ne]; omega
    have hwq : IntKind.i64.wrap (q : Int) = (q : Int) := IntWalk.i64_in _ (by omega)
    have hq0 : (0 : Int) ≤ (q : Int) := by omega
    have hqn : (q : Int) < (n : Int) := by omega
    by_cases hhi : hi + 1 = n
    · have hE : endsL xs (q + 1) hi = (xs.getD q 0, xs.getD q 0) := by unfold endsL; rw [if_neg (by omega), if_pos (by omega)]; rfl
      obtain ⟨x1, hx1⟩ : ∃ x, xs.getD q 0 = x := ⟨_, rfl⟩
      rw [hx1] at q1 hE
      have HE := Lib.hid hE
      have hh : ((hi : Int) == (n : Int) - 1) = true := by rw [beq_iff_eq]; omega
      simp only [Int.natCast_add, Int.natCast_one, Int.cast_ofNat_Int] at q1
      clear hx1 hE hl hhi
      go_enter Tryz.func85, Tryz.ntmps85
      go_wp2
      go_ret2
      exact ⟨by rw [HE.out]; rfl, 0, rfl⟩
    · have hE : endsL xs (q + 1) hi = (xs.getD q 0, xs.getD (hi + 1) 0) := by unfold endsL; rw [if_neg (by omega), if_neg (by omega)]; rfl
      have q2 := HC.out (hi + 1) (by omega)
      obtain ⟨x1, hx1⟩ : ∃ x, xs.getD q 0 = x := ⟨_, rfl⟩
      obtain ⟨x2, hx2⟩ : ∃ x, xs.getD (hi + 1) 0 = x := ⟨_, rfl⟩
      rw [hx1] at q1 hE
      rw [hx2] at q2 hE
      have HE := Lib.hid hE
      have hh : ((hi : Int) == (n : Int) - 1) = false := by rw [beq_eq_false_iff_ne]; omega
      have hzz : (hi : Int) + 1 < (n : Int) := by omega
      have hz2 : ((hi : Int) + 1).toNat = hi + 1 := by omega
      have hz3 : (0 : Int) ≤ (hi : Int) + 1 := by omega
      have HS0 : Hid ((fun w' : World => w'.cell? ⟨w.heap.size, 0, none⟩ = some (.int .i64 ((q : Int) + 1)) ∧ w'.cell? ⟨w.heap.size, 1, none⟩ = some (.int .i64 hi) ∧ w'.cell? ⟨g, q, none⟩ = some (.int .i64 x1) ∧ w'.cell? ⟨g, hi + 1, none⟩ = some (.int .i64 x2)) (w.alloc (.cells #[.int .i64 ((q : Int) + 1), .int .i64 hi] 51)).drew) := by
        refine ⟨by simp [go_sem], by simp [go_sem], ?_, ?_⟩
        · have := q1; simpa using this
        · have := q2; simpa using this
      clear hx1 hx2 hE hl hhi q1 q2
      go_enter Tryz.func85, Tryz.ntmps85
      go_wp2_with fail
      refine wp_region_held_drew (S := (fun w' : World => w'.cell? ⟨w.heap.size, 0, none⟩ = some (.int .i64 ((q : Int) + 1)) ∧ w'.cell? ⟨w.heap.size, 1, none⟩ = some (.int .i64 hi) ∧ w'.cell? ⟨g, q, none⟩ = some (.int .i64 x1) ∧ w'.cell? ⟨g, hi + 1, none⟩ = some (.int .i64 x2))) (by kernel_rfl) ?_ ?_
      · exact HS0.out
      intro hHeld
      refine wpAnyH_take (i := 0) (v := ?_) rfl (by kernel_rfl) (by kernel_rfl) (by kernel_rfl) (fun _ _ _ h => h) (Or.inl ⟨by rfl, ?_⟩) (by assumption) ?_
      rotate_left
      · intro w hSw; (try dsimp only at hSw); go_simp; (try (with_reducible rfl))
      try simp only [List.getElem_toArray, List.getElem_cons_succ, List.getElem_cons_zero, Act.put, List.setIfInBounds_toArray, List.set_cons_zero, List.set_cons_succ]
      refine wpAnyH_take (i := 1) (v := ?_) rfl (by kernel_rfl) (by kernel_rfl) (by kernel_rfl) (fun _ _ _ h => h) (Or.inl ⟨by rfl, ?_⟩) (by assumption) ?_
      rotate_left
      · intro w hSw; (try dsimp only at hSw); go_simp; (try (with_reducible rfl))
      try simp only [List.getElem_toArray, List.getElem_cons_succ, List.getElem_cons_zero, Act.put, List.setIfInBounds_toArray, List.set_cons_zero, List.set_cons_succ]
      refine wpAnyH_take (i := 2) (v := ?_) rfl (by kernel_rfl) (by kernel_rfl) (by kernel_rfl) (fun _ _ _ h => h) (Or.inl ⟨by rfl, ?_⟩) (by assumption) ?_
      rotate_left
      · intro w hSw; (try dsimp only at hSw); go_simp; (try (with_reducible rfl))
      try simp only [List.getElem_toArray, List.getElem_cons_succ, List.getElem_cons_zero, Act.put, List.setIfInBounds_toArray, List.set_cons_zero, List.set_cons_succ]
      refine wpAnyH_take (i := 3) (v := ?_) rfl (by kernel_rfl) (by kernel_rfl) (by kernel_rfl) (fun _ _ _ h => h) (Or.inl ⟨by rfl, ?_⟩) (by assumption) ?_
      rotate_left
      · intro w hSw; (try dsimp only at hSw); go_simp; (try (with_reducible rfl))
      try simp only [List.getElem_toArray, List.getElem_cons_succ, List.getElem_cons_zero, Act.put, List.setIfInBounds_toArray, List.set_cons_zero, List.set_cons_succ]
      refine wpAnyH_take (i := 4) (v := ?_) rfl (by kernel_rfl) (by kernel_rfl) (by kernel_rfl) (fun _ _ _ h => h) (Or.inl ⟨by rfl, ?_⟩) (by assumption) ?_
      rotate_left
      · intro w hSw; (try dsimp only at hSw); go_simp; (try (with_reducible rfl))
      try simp only [List.getElem_toArray, List.getElem_cons_succ, List.getElem_cons_zero, Act.put, List.setIfInBounds_toArray, List.set_cons_zero, List.set_cons_succ]
      refine wpAnyH_take (i := 5) (v := ?_) rfl (by kernel_rfl) (by kernel_rfl) (by kernel_rfl) (fun _ _ _ h => h) (Or.inl ⟨by rfl, ?_⟩) (by assumption) ?_
      rotate_left
      · intro w hSw; (try dsimp only at hSw); go_simp; (try (with_reducible rfl))
      try simp only [List.getElem_toArray, List.getElem_cons_succ, List.getElem_cons_zero, Act.put, List.setIfInBounds_toArray, List.set_cons_zero, List.set_cons_succ]
      refine wpAnyH_take (i := 6) (v := ?_) rfl (by kernel_rfl) (by kernel_rfl) (by kernel_rfl) (fun _ _ _ h => h) (Or.inl ⟨by rfl, ?_⟩) (by assumption) ?_
      rotate_left
      · intro w hSw; (try dsimp only at hSw); go_simp; (try (with_reducible rfl))
      try simp only [List.getElem_toArray, List.getElem_cons_succ, List.getElem_cons_zero, Act.put, List.setIfInBounds_toArray, List.set_cons_zero, List.set_cons_succ]
      refine wpAnyH_take (i := 7) (v := ?_) rfl (by kernel_rfl) (by kernel_rfl) (by kernel_rfl) (fun _ _ _ h => h) (Or.inl ⟨by rfl, ?_⟩) (by assumption) ?_
      rotate_left
      · intro w hSw; (try dsimp only at hSw); go_simp; (try (with_reducible rfl))
      try simp only [List.getElem_toArray, List.getElem_cons_succ, List.getElem_cons_zero, Act.put, List.setIfInBounds_toArray, List.set_cons_zero, List.set_cons_succ]
      refine wpAnyH_take (i := 8) (v := ?_) rfl (by kernel_rfl) (by kernel_rfl) (by kernel_rfl) (fun _ _ _ h => h) (Or.inl ⟨by rfl, ?_⟩) (by assumption) ?_
      rotate_left
      · intro w hSw; (try dsimp only at hSw); go_simp; (try (with_reducible rfl))
      try simp only [List.getElem_toArray, List.getElem_cons_succ, List.getElem_cons_zero, Act.put, List.setIfInBounds_toArray, List.set_cons_zero, List.set_cons_succ]
      refine wpAnyH_take (i := 9) (v := ?_) rfl (by kernel_rfl) (by kernel_rfl) (by kernel_rfl) (fun _ _ _ h => h) (Or.inl ⟨by rfl, ?_⟩) (by assumption) ?_
      rotate_left
      · intro w hSw; (try dsimp only at hSw); go_simp; (try (with_reducible rfl))
      try simp only [List.getElem_toArray, List.getElem_cons_succ, List.getElem_cons_zero, Act.put, List.setIfInBounds_toArray, List.set_cons_zero, List.set_cons_succ]
      refine wpAnyH_take (i := 10) (v := ?_) rfl (by kernel_rfl) (by kernel_rfl) (by kernel_rfl) (fun _ _ _ h => h) (Or.inl ⟨by rfl, ?_⟩) (by assumption) ?_
      rotate_left
      · intro w hSw; (try dsimp only at hSw); go_simp; (try (with_reducible rfl))
      try simp only [List.getElem_toArray, List.getElem_cons_succ, List.getElem_cons_zero, Act.put, List.setIfInBounds_toArray, List.set_cons_zero, List.set_cons_succ]
      refine wpAnyH_take (i := 11) (v := ?_) rfl (by kernel_rfl) (by kernel_rfl) (by kernel_rfl) (fun _ _ _ h => h) (Or.inl ⟨by rfl, ?_⟩) (by assumption) ?_
      rotate_left
      · intro w hSw; (try dsimp only at hSw); go_simp; (try (with_reducible rfl))
      try simp only [List.getElem_toArray, List.getElem_cons_succ, List.getElem_cons_zero, Act.put, List.setIfInBounds_toArray, List.set_cons_zero, List.set_cons_succ]
      refine wpAnyH_take (i := 12) (v := ?_) rfl (by kernel_rfl) (by kernel_rfl) (by kernel_rfl) (fun _ _ _ h => h) (Or.inl ⟨by rfl, ?_⟩) (by assumption) ?_
      rotate_left
      · intro w hSw; (try dsimp only at hSw); go_simp; (try (with_reducible rfl))
      try simp only [List.getElem_toArray, List.getElem_cons_succ, List.getElem_cons_zero, Act.put, List.setIfInBounds_toArray, List.set_cons_zero, List.set_cons_succ]
      refine wpAnyH_take (i := 13) (v := ?_) rfl (by kernel_rfl) (by kernel_rfl) (by kernel_rfl) (fun _ _ _ h => h) (Or.inl ⟨by rfl, ?_⟩) (by assumption) ?_
      rotate_left
      · intro w hSw; (try dsimp only at hSw); go_simp; (try (with_reducible rfl))
      try simp only [List.getElem_toArray, List.getElem_cons_succ, List.getElem_cons_zero, Act.put, List.setIfInBounds_toArray, List.set_cons_zero, List.set_cons_succ]
      refine wpAnyH_done (by kernel_rfl) ?_ _
      go_wp2
      go_ret2
      exact ⟨by rw [HE.out]; rfl, 1, by simp [World.drewN, World.drew]⟩

end Go.Proofs.YtjjflbnopphciaaGreatDoor
