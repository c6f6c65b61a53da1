import Derived.Test.YtnmfeonagigkeaaA2
import Derived.Test.YtnmfeonagigkeaaS4
import Derived.Test.YtnmfeonagigkeaaS6
namespace Go.Proofs.Ytnmfeonagigkeaa
open Go.RowKit

theorem v_back : matsE [(11, 5)] = 0 ∧ wlsL [(11, 5)] = [(3, 8)] := by decide +kernel
theorem ex_walls (w : World) :
    Calls Try.prog 12 #[.slice (some ⟨w.heap.size, 0, none⟩) 1 1] (w.alloc (.cells #[.int .i64 11, .int .i64 5] 34)) fun e w' => (∃ g c, e = .returned (.tuple #[.slice (some ⟨g, 0, none⟩) 1 c, .int .i64 0]) ∧ w'.cell? ⟨g, 0, none⟩ = some (.int .i64 3) ∧ w'.cell? ⟨g, 1, none⟩ = some (.int .i64 8)) ∧ Below w.heap.size w w' := by
  refine (WallsOf_any w.heap.size 1 1 [(11, 5)] _ ?_ (by omega)).mono ?_
  · refine ⟨rfl, fun _ => by simp, fun j hj => ?_⟩
    obtain rfl : j = 0 := by omega
    exact ⟨by simp [go_sem], by simp [go_sem]⟩
  rintro e w' ⟨⟨v, rfl, ho⟩, hb⟩
  rw [v_back.1]
  rw [v_back.2] at ho
  obtain ⟨g, c, rfl⟩ := ownsRow_succ (k := 0) ho
  refine ⟨⟨g, c, rfl, ?_, ?_⟩, ((Below.refl _ w).alloc (Nat.le_refl _) _).trans (hb.mono (by simp))⟩
  · have := ho.cells (g := g) rfl 0 (.int .i64 3) rfl
    rwa [addOff] at this
  · have := ho.cells (g := g) rfl 1 (.int .i64 8) rfl
    rwa [addOff] at this

set_option maxRecDepth 100000 in
set_option maxHeartbeats 2000000 in
theorem shown_any (w : World) :
    Calls Try.prog 4 #[] w fun e w' => e = .returned (.bool true) ∧ Below w.heap.size w w' := by
  go_enter Try.func4, Try.ntmps4
  go_wp2_with fail
  refine (Task_any _).mono ?_
  rintro e w3 ⟨⟨B3, rfl, hg3⟩, hb3⟩
  have l3 := Lib.hid hb3
  have C3 := Lib.hid (ex_best B3 w3 hg3)
  clear hg3 hb3
  go_wp2_with fail
  refine C3.out.mono ?_
  rintro e w4 ⟨⟨A4, c4, rfl, hr4⟩, hb4⟩
  have l4 := Lib.hid (l3.out.trans (hb4.mono l3.out.size))
  have S4 := Lib.hid hr4
  clear hr4 hb4 l3 C3
  have C5 := Lib.hid (ex_walls w4)
  go_wp2_with fail
  refine C5.out.mono ?_
  rintro e w8 ⟨⟨g8, c8, rfl, k0, k1⟩, hb8⟩
  have l8 := Lib.hid (l4.out.trans (hb8.mono l4.out.size))
  have S8 := Lib.hid (S4.out.below hb8)
  have hz8 : g8 < w8.heap.size := World.block_lt_of_cell? _ _ k0
  have K0 := Lib.hid k0
  have K1 := Lib.hid k1
  clear k0 k1 hb8 l4 S4 C5
  have lb10 : Below w8.heap.size w8 (w8.alloc (.cells #[.int .i64 1, .int .i64 2, .int .i64 1] 3)) := (Below.refl _ _).alloc (Nat.le_refl _) _
  have lit10 : RdI (w8.alloc (.cells #[.int .i64 1, .int .i64 2, .int .i64 1] 3)) (some ⟨w8.heap.size, 0, none⟩) 3 [1, 2, 1] := rd_of_bk (xs := [1, 2, 1]) (show Bk (w8.alloc (.cells #[.int .i64 1, .int .i64 2, .int .i64 1] 3)) w8.heap.size 3 (iArr [1, 2, 1]) from Bk.new _ _ _) rfl
  have CI10 := Lib.hid (ints_any _ _ 3 3 c4 3 [1, 2, 1] [1, 2, 1] (w8.alloc (.cells #[.int .i64 1, .int .i64 2, .int .i64 1] 3)) (S8.out.below lb10) lit10 (by omega) (by omega))
  have LB10 := Lib.hid lb10
  clear lb10 lit10
  go_wp2_with fail
  refine CI10.out.mono ?_
  rintro e w' ⟨rfl, kk10, rfl⟩
  have hB10 : Below w8.heap.size w8 ((w8.alloc (.cells #[.int .i64 1, .int .i64 2, .int .i64 1] 3)).drewN kk10) := belowDrewN LB10.out kk10
  obtain ⟨w10, hw10⟩ : ∃ W, (w8.alloc (.cells #[.int .i64 1, .int .i64 2, .int .i64 1] 3)).drewN kk10 = W := ⟨_, rfl⟩
  rw [hw10] at hB10 ⊢
  have l10 := Lib.hid (l8.out.trans (hB10.mono l8.out.size))
  have k0 := (hB10.cell (p := ⟨g8, 0, none⟩) (World.block_lt_of_cell? _ _ K0.out)).trans K0.out
  have k1 := (hB10.cell (p := ⟨g8, 1, none⟩) (World.block_lt_of_cell? _ _ K1.out)).trans K1.out
  clear hw10 hB10 CI10 LB10 S8 K0 K1 l8
  go_wp2
  go_ret
  exact ⟨rfl, l10.out⟩

end Go.Proofs.Ytnmfeonagigkeaa
